package effect

import (
	"math"
	"slices"
	"strings"
	"testing"

	"delayslot/api"
)

const round = 1 << 32

// row is what the chapters tell of one operation: its parts (layer 2) by their
// letters (I is Imm), the bounds of Imm, the parts that it reads and writes,
// and whether it acts, goes, or is late (a, g, l). Sys stands apart, as what it
// reads and writes hangs on its number.
type row struct {
	name            string
	has             string
	least, greatest int
	reads, writes   string
	does            string
}

// table has all numbers written out, so that a change of the program's own
// shows.
var table = []row{
	{"Nop", "", 0, 0, "", "", ""},
	{"Add", "ABC", 0, 0, "BC", "A", ""},
	{"Sub", "ABC", 0, 0, "BC", "A", ""},
	{"Mul", "ABC", 0, 0, "BC", "A", ""},
	{"Div", "ABC", 0, 0, "BC", "A", "a"},
	{"Mod", "ABC", 0, 0, "BC", "A", "a"},
	{"And", "ABC", 0, 0, "BC", "A", ""},
	{"Or", "ABC", 0, 0, "BC", "A", ""},
	{"Slt", "ABC", 0, 0, "BC", "A", ""},
	{"Seq", "ABC", 0, 0, "BC", "A", ""},
	{"AddI", "ABI", -32768, 32767, "B", "A", ""},
	{"Lui", "AI", -32768, 32767, "", "A", ""},
	{"Lw", "ABI", -32768, 32767, "B", "A", "al"},
	{"Sw", "ABI", -32768, 32767, "AB", "", "a"},
	{"Check", "ABI", 0, 32767, "A", "", "a"},
	{"Beq", "ABI", -32768, 32767, "AB", "", "g"},
	{"Bne", "ABI", -32768, 32767, "AB", "", "g"},
	{"Jmp", "I", 0, 4096, "", "", "g"},
	{"Jal", "I", 0, 4096, "", "", "g"},
	{"Jr", "A", 0, 0, "A", "", "g"},
	{"Sys", "I", 0, 2, "", "", "a"},
}

// operations are api's, in the order of the table.
func operations() []int {
	return []int{api.Nop, api.Add, api.Sub, api.Mul, api.Div, api.Mod, api.And, api.Or, api.Slt, api.Seq, api.AddI,
		api.Lui, api.Lw, api.Sw, api.Check, api.Beq, api.Bne, api.Jmp, api.Jal, api.Jr, api.Sys}
}

// told is all that the layer tells of an instruction, but Touches.
type told struct {
	reads            []int
	writes           int
	acts, goes, late bool
}

func tell(i api.Instr) told {
	return told{Reads(i), Writes(i), Acts(i), Goes(i), Late(i)}
}

func (a told) equal(b told) bool {
	return slices.Equal(a.reads, b.reads) && a.writes == b.writes && a.acts == b.acts && a.goes == b.goes && a.late == b.late
}

func (r row) isPart(letter string, n int) bool {
	switch {
	case !strings.Contains(r.has, letter):
		return n == 0
	case letter == "I":
		return r.least <= n && n <= r.greatest
	}
	return 0 <= n && n <= 31
}

// isRight is the reference of which instructions are right.
func isRight(i api.Instr) bool {
	if i.Op < 0 || i.Op >= len(table) {
		return false
	}
	r := table[i.Op]
	return r.isPart("A", i.A) && r.isPart("B", i.B) && r.isPart("C", i.C) && r.isPart("I", i.Imm)
}

func part(i api.Instr, letter rune) int {
	return map[rune]int{'A': i.A, 'B': i.B, 'C': i.C}[letter]
}

// want is the reference of all that is told.
func want(i api.Instr) told {
	if !isRight(i) {
		return told{}
	}
	r := table[i.Op]
	w := told{acts: strings.Contains(r.does, "a"), goes: strings.Contains(r.does, "g"), late: strings.Contains(r.does, "l")}
	for _, letter := range r.reads {
		w.reads = append(w.reads, part(i, letter))
	}
	for _, letter := range r.writes {
		w.writes = part(i, letter)
	}
	switch {
	case r.name == "Jal":
		w.writes = 31
	case r.name == "Sys" && i.Imm == 1:
		w.writes, w.late = 4, true
	case r.name == "Sys" && i.Imm == 2:
		w.reads = []int{4}
	}
	slices.Sort(w.reads)
	w.reads = slices.DeleteFunc(slices.Compact(w.reads), func(n int) bool { return n == 0 })
	return w
}

// wantTouches is the reference of Touches.
func wantTouches(i api.Instr, reg int) bool {
	w := want(i)
	return reg != 0 && (slices.Contains(w.reads, reg) || w.writes == reg)
}

// hold holds what is told of an instruction against the reference, and against
// what follows (P3.2).
func hold(t *testing.T, i api.Instr) {
	t.Helper()
	got, want := tell(i), want(i)
	if !got.equal(want) {
		t.Errorf("%+v: told %+v, want %+v", i, got, want)
	}
	if got.acts && got.goes {
		t.Errorf("%+v goes, and acts", i)
	}
	if len(got.reads) > 2 {
		t.Errorf("%+v reads %v: more than two", i, got.reads)
	}
}

// noRegisters has numbers that are no registers; among these some whose lowest
// bits are a register's.
func noRegisters() []int {
	return []int{-1, -2, -4, -27, -28, -31, -32, -33, 32, 33, 35, 36, 63, 64, 1 << 16, 1 << 31, round, round + 4, round + 31,
		-round, -round + 4, math.MaxInt, math.MinInt, math.MinInt + 4}
}

// immediates has the bounds of each operation's Imm, the numbers beside them,
// and numbers of any size; among these some whose lowest bits are an Imm's.
func immediates() []int {
	return []int{0, 1, 2, 3, 4, 31, 4095, 4096, 4097, 32766, 32767, 32768, 65535, 65536, 65537, 1 << 31, round, round + 1, round + 2,
		-1, -2, -4096, -32767, -32768, -32769, -65535, -65536, -round, -round + 1, math.MaxInt, math.MinInt, math.MinInt + 1}
}

// noOperations has the numbers beside the operations, and some whose lowest
// bits are an operation's.
func noOperations() []int {
	return []int{-1, -2, -12, -20, 21, 22, 31, 32, 63, 64, 76, 84, 1 << 26, 1 << 31, round, round + 1, round + 12, round + 20,
		-round, -round + 12, math.MaxInt, math.MinInt, math.MinInt + 12}
}

// instructions has, of each operation, right and wrong ones: each part at all
// numbers, and the other parts at ordinary ones, right and wrong.
func instructions() []api.Instr {
	var l []api.Instr
	for _, op := range append(operations(), noOperations()...) {
		for _, rest := range []api.Instr{{}, {A: 1}, {A: 31}, {A: 3, B: 5}, {A: 3, B: 5, C: 7}, {A: 3, B: 7, C: 5}, {A: 3, B: 5, Imm: 9},
			{A: 3, Imm: 9}, {Imm: 1}, {Imm: 2}, {A: 31, B: 31, C: 31}, {A: 31, B: 4, Imm: -32768}, {A: 31, B: 31, C: 31, Imm: 1}} {
			rest.Op = op
			l = append(l, rest)
			for _, n := range append(noRegisters(), 0, 1, 4, 5, 30, 31) {
				a, b, c := rest, rest, rest
				a.A, b.B, c.C = n, n, n
				l = append(l, a, b, c)
			}
			for _, n := range immediates() {
				imm := rest
				imm.Imm = n
				l = append(l, imm)
			}
		}
	}
	return l
}

// The operations are those of the table, by their numbers.
func TestOperationsAreTheTables(t *testing.T) {
	if len(operations()) != len(table) {
		t.Fatalf("there are %d operations, and %d rows", len(operations()), len(table))
	}
	for i, op := range operations() {
		if op != i {
			t.Errorf("%s has the number %d, want %d", table[i].name, op, i)
		}
	}
}

// P3.1: an ordinary instruction of each operation, and each of Sys's numbers,
// with all that is told written out by hand.
func TestEachOperation(t *testing.T) {
	cases := []struct {
		i    api.Instr
		want told
	}{
		{api.Instr{Op: api.Nop}, told{}},
		{api.Instr{Op: api.Add, A: 1, B: 2, C: 3}, told{[]int{2, 3}, 1, false, false, false}},
		{api.Instr{Op: api.Sub, A: 9, B: 3, C: 2}, told{[]int{2, 3}, 9, false, false, false}},
		{api.Instr{Op: api.Mul, A: 8, B: 9, C: 10}, told{[]int{9, 10}, 8, false, false, false}},
		{api.Instr{Op: api.Div, A: 8, B: 9, C: 10}, told{[]int{9, 10}, 8, true, false, false}},
		{api.Instr{Op: api.Mod, A: 8, B: 10, C: 9}, told{[]int{9, 10}, 8, true, false, false}},
		{api.Instr{Op: api.And, A: 5, B: 5, C: 6}, told{[]int{5, 6}, 5, false, false, false}},
		{api.Instr{Op: api.Or, A: 6, B: 5, C: 6}, told{[]int{5, 6}, 6, false, false, false}},
		{api.Instr{Op: api.Slt, A: 30, B: 29, C: 4}, told{[]int{4, 29}, 30, false, false, false}},
		{api.Instr{Op: api.Seq, A: 7, B: 7, C: 7}, told{[]int{7}, 7, false, false, false}},
		{api.Instr{Op: api.AddI, A: 1, B: 2, Imm: -1}, told{[]int{2}, 1, false, false, false}},
		{api.Instr{Op: api.Lui, A: 5, Imm: 3}, told{nil, 5, false, false, false}},
		{api.Instr{Op: api.Lw, A: 1, B: 30, Imm: -3}, told{[]int{30}, 1, true, false, true}},
		{api.Instr{Op: api.Sw, A: 9, B: 29, Imm: 3}, told{[]int{9, 29}, 0, true, false, false}},
		{api.Instr{Op: api.Check, A: 3, B: 5, Imm: 10}, told{[]int{3}, 0, true, false, false}},
		{api.Instr{Op: api.Beq, A: 1, B: 2, Imm: -2}, told{[]int{1, 2}, 0, false, true, false}},
		{api.Instr{Op: api.Bne, A: 2, B: 1, Imm: 2}, told{[]int{1, 2}, 0, false, true, false}},
		{api.Instr{Op: api.Jmp, Imm: 9}, told{nil, 0, false, true, false}},
		{api.Instr{Op: api.Jal, Imm: 9}, told{nil, 31, false, true, false}},
		{api.Instr{Op: api.Jr, A: 31}, told{[]int{31}, 0, false, true, false}},
		{api.Instr{Op: api.Jr, A: 7}, told{[]int{7}, 0, false, true, false}},
		{api.Instr{Op: api.Sys, Imm: 0}, told{nil, 0, true, false, false}},
		{api.Instr{Op: api.Sys, Imm: 1}, told{nil, 4, true, false, true}},
		{api.Instr{Op: api.Sys, Imm: 2}, told{[]int{4}, 0, true, false, false}},
	}
	for _, c := range cases {
		if got := tell(c.i); !got.equal(c.want) {
			t.Errorf("%+v: told %+v, want %+v", c.i, got, c.want)
		}
	}
}

// P3.1: register 0 is neither read nor written, the same one twice is told
// once, and registers rise, however they stand.
func TestEdgesOfRegisters(t *testing.T) {
	cases := []struct {
		i      api.Instr
		reads  []int
		writes int
	}{
		{api.Instr{Op: api.Sw, A: 3, B: 3}, []int{3}, 0},
		{api.Instr{Op: api.Add, A: 0, B: 1, C: 2}, []int{1, 2}, 0},
		{api.Instr{Op: api.Add, A: 1, B: 0, C: 2}, []int{2}, 1},
		{api.Instr{Op: api.Add, A: 1, B: 2, C: 0}, []int{2}, 1},
		{api.Instr{Op: api.Add, A: 1}, nil, 1},
		{api.Instr{Op: api.Add}, nil, 0},
		{api.Instr{Op: api.Div, B: 31, C: 1}, []int{1, 31}, 0},
		{api.Instr{Op: api.Div, B: 31, C: 31}, []int{31}, 0},
		{api.Instr{Op: api.Mod, A: 31, B: 30, C: 31}, []int{30, 31}, 31},
		{api.Instr{Op: api.AddI, A: 4, B: 4}, []int{4}, 4},
		{api.Instr{Op: api.AddI, A: 4}, nil, 4},
		{api.Instr{Op: api.AddI, B: 4}, []int{4}, 0},
		{api.Instr{Op: api.Lui, Imm: 5}, nil, 0},
		{api.Instr{Op: api.Lui, A: 31}, nil, 31},
		{api.Instr{Op: api.Lw}, nil, 0},
		{api.Instr{Op: api.Lw, B: 31}, []int{31}, 0},
		{api.Instr{Op: api.Lw, A: 31}, nil, 31},
		{api.Instr{Op: api.Sw}, nil, 0},
		{api.Instr{Op: api.Sw, A: 5}, []int{5}, 0},
		{api.Instr{Op: api.Sw, B: 5}, []int{5}, 0},
		{api.Instr{Op: api.Sw, A: 31, B: 4}, []int{4, 31}, 0},
		{api.Instr{Op: api.Beq, A: 2, B: 2}, []int{2}, 0},
		{api.Instr{Op: api.Beq, A: 2, B: 1}, []int{1, 2}, 0},
		{api.Instr{Op: api.Bne}, nil, 0},
		{api.Instr{Op: api.Bne, B: 31}, []int{31}, 0},
		{api.Instr{Op: api.Check, A: 0, B: 5, Imm: 1}, nil, 0},
		{api.Instr{Op: api.Check, A: 4, B: 31, Imm: 1}, []int{4}, 0},
		{api.Instr{Op: api.Jr}, nil, 0},
		{api.Instr{Op: api.Jr, A: 4}, []int{4}, 0},
	}
	for _, c := range cases {
		if got := Reads(c.i); !slices.Equal(got, c.reads) {
			t.Errorf("Reads(%+v) = %v, want %v", c.i, got, c.reads)
		}
		if got := Writes(c.i); got != c.writes {
			t.Errorf("Writes(%+v) = %d, want %d", c.i, got, c.writes)
		}
	}
}

// P3.1: what acts, goes, or is late, is so whatever its registers are: a Lw of
// register 0 is late, too.
func TestDoesWithNoRegister(t *testing.T) {
	if i := (api.Instr{Op: api.Lw}); !Acts(i) || Goes(i) || !Late(i) {
		t.Errorf("a Lw of register 0: %+v", tell(i))
	}
	for _, op := range []int{api.Div, api.Mod, api.Sw, api.Check, api.Sys} {
		if i := (api.Instr{Op: op}); !Acts(i) || Goes(i) || Late(i) {
			t.Errorf("%+v: %+v", i, tell(i))
		}
	}
	for _, op := range []int{api.Beq, api.Bne, api.Jmp, api.Jal, api.Jr} {
		if i := (api.Instr{Op: op}); Acts(i) || !Goes(i) || Late(i) {
			t.Errorf("%+v: %+v", i, tell(i))
		}
	}
}

// P3.1: Touches at the edges: 0, registers 4 and 31, a number that is a part
// but no register, and numbers beside the registers.
func TestTouchesEdges(t *testing.T) {
	cases := []struct {
		i    api.Instr
		reg  int
		want bool
	}{
		{api.Instr{Op: api.Nop}, 0, false},
		{api.Instr{Op: api.Add}, 0, false},
		{api.Instr{Op: api.Add, A: 1, B: 2, C: 3}, 0, false},
		{api.Instr{Op: api.Add, A: 1, B: 2, C: 3}, 1, true},
		{api.Instr{Op: api.Add, A: 1, B: 2, C: 3}, 2, true},
		{api.Instr{Op: api.Add, A: 1, B: 2, C: 3}, 3, true},
		{api.Instr{Op: api.Add, A: 1, B: 2, C: 3}, 4, false},
		{api.Instr{Op: api.Add, A: 1, B: 2, C: 3}, -1, false},
		{api.Instr{Op: api.Add, A: 31, B: 31, C: 31}, 32, false},
		{api.Instr{Op: api.Add, A: 31, B: 31, C: 31}, 31, true},
		{api.Instr{Op: api.Add, A: 31, B: 31, C: 31}, -31, false},
		{api.Instr{Op: api.Add, A: 31, B: 31, C: 31}, round + 31, false},
		{api.Instr{Op: api.Sw, A: 3, B: 5, Imm: 7}, 5, true},
		{api.Instr{Op: api.Sw, A: 3, B: 5, Imm: 7}, 7, false},
		{api.Instr{Op: api.Check, A: 3, B: 5, Imm: 10}, 3, true},
		{api.Instr{Op: api.Check, A: 3, B: 5, Imm: 10}, 5, false},
		{api.Instr{Op: api.Check, A: 3, B: 5, Imm: 10}, 10, false},
		{api.Instr{Op: api.Jal, Imm: 4}, 31, true},
		{api.Instr{Op: api.Jal, Imm: 4}, 4, false},
		{api.Instr{Op: api.Jmp, Imm: 31}, 31, false},
		{api.Instr{Op: api.Jr, A: 31}, 31, true},
		{api.Instr{Op: api.Jr}, 31, false},
		{api.Instr{Op: api.Sys, Imm: 0}, 4, false},
		{api.Instr{Op: api.Sys, Imm: 1}, 4, true},
		{api.Instr{Op: api.Sys, Imm: 2}, 4, true},
		{api.Instr{Op: api.Sys, Imm: 1}, 1, false},
		{api.Instr{Op: api.Sys, Imm: 3}, 4, false},
		{api.Instr{Op: api.Add, A: 32, B: 2, C: 3}, 32, false},
		{api.Instr{Op: api.Add, A: 32, B: 2, C: 3}, 2, false},
		{api.Instr{Op: api.Add, A: -1, B: 2, C: 3}, -1, false},
	}
	for _, c := range cases {
		if got := Touches(c.i, c.reg); got != c.want {
			t.Errorf("Touches(%+v, %d) = %v, want %v", c.i, c.reg, got, c.want)
		}
	}
}

// P3.1, P3.2: each operation, with all registers in all its places.
func TestAllRegisters(t *testing.T) {
	places := func(has bool) int {
		if has {
			return 32
		}
		return 1
	}
	for op, r := range table {
		for a := range places(strings.Contains(r.has, "A")) {
			for b := range places(strings.Contains(r.has, "B")) {
				for c := range places(strings.Contains(r.has, "C")) {
					hold(t, api.Instr{Op: op, A: a, B: b, C: c, Imm: r.greatest})
				}
			}
		}
	}
}

// P3.1, P3.2, and that no call panics: right and wrong instructions, of any
// size; both kinds are among them.
func TestInstructions(t *testing.T) {
	right, wrong := 0, 0
	for _, i := range instructions() {
		if isRight(i) {
			right++
		} else {
			wrong++
		}
		hold(t, i)
	}
	if right < 1000 || wrong < 1000 {
		t.Errorf("%d instructions are right, and %d wrong", right, wrong)
	}
}

// P3.1: Touches, of right and wrong instructions, at all registers and at
// numbers that are none.
func TestTouchesAll(t *testing.T) {
	regs := noRegisters()
	for n := range 32 {
		regs = append(regs, n)
	}
	for _, i := range instructions() {
		for _, reg := range append(regs, i.A, i.B, i.C, i.Imm) {
			if got, want := Touches(i, reg), wantTouches(i, reg); got != want {
				t.Errorf("Touches(%+v, %d) = %v, want %v", i, reg, got, want)
			}
		}
	}
}

// P3.1: of what is not right nothing is told, though its operation would read,
// write, act, go, or be late.
func TestNotRight(t *testing.T) {
	wrong := []api.Instr{
		{Op: api.Nop, A: 1}, {Op: api.Nop, Imm: 1},
		{Op: api.Add, A: 32, B: 1, C: 2}, {Op: api.Add, A: 1, B: -1, C: 2}, {Op: api.Add, A: 1, B: 2, C: 32}, {Op: api.Add, A: 1, B: 2, C: 3, Imm: 1},
		{Op: api.Div, A: 1, B: 2, C: -1}, {Op: api.Mod, A: 1, B: 2, C: 3, Imm: -1},
		{Op: api.AddI, A: 1, B: 2, Imm: 32768}, {Op: api.AddI, A: 1, B: 2, C: 1},
		{Op: api.Lui, A: 1, B: 1}, {Op: api.Lui, A: 1, Imm: -32769},
		{Op: api.Lw, A: 1, B: 2, Imm: 32768}, {Op: api.Lw, A: 1, B: 2, C: 3}, {Op: api.Lw, A: 32}, {Op: api.Lw, B: math.MinInt},
		{Op: api.Sw, A: 1, B: 2, Imm: -32769}, {Op: api.Sw, A: 1, B: 32},
		{Op: api.Check, A: 1, B: 5, Imm: -1}, {Op: api.Check, A: 1, B: 32, Imm: 1}, {Op: api.Check, A: 1, C: 1},
		{Op: api.Beq, A: 1, B: 2, Imm: 32768}, {Op: api.Bne, A: 1, B: 2, C: 3},
		{Op: api.Jmp, Imm: 4097}, {Op: api.Jmp, Imm: -1}, {Op: api.Jmp, A: 1},
		{Op: api.Jal, Imm: 4097}, {Op: api.Jal, Imm: -1}, {Op: api.Jal, A: 31},
		{Op: api.Jr, A: 32}, {Op: api.Jr, A: 31, Imm: 1}, {Op: api.Jr, A: 31, B: 1},
		{Op: api.Sys, Imm: 3}, {Op: api.Sys, Imm: -1}, {Op: api.Sys, A: 4, Imm: 1}, {Op: api.Sys, A: 4, Imm: 2}, {Op: api.Sys, Imm: round + 1},
		{Op: 21, A: 1, B: 2, C: 3}, {Op: -1}, {Op: math.MaxInt}, {Op: math.MinInt, A: 4}, {Op: round + 12, A: 1, B: 2},
	}
	for _, i := range wrong {
		if got := tell(i); !got.equal(told{}) {
			t.Errorf("%+v is not right, but told is %+v", i, got)
		}
		for reg := -1; reg <= 32; reg++ {
			if Touches(i, reg) {
				t.Errorf("%+v is not right, but touches %d", i, reg)
			}
		}
	}
}

// R1: a list that is told is new memory: who writes into it changes no other.
func TestReadsAreNew(t *testing.T) {
	for _, i := range []api.Instr{{Op: api.Add, A: 1, B: 2, C: 3}, {Op: api.Sw, A: 3, B: 3}, {Op: api.Sys, Imm: 2}} {
		kept, first := Reads(i), Reads(i)
		for k := range first {
			first[k] = 99
		}
		if again := Reads(i); !slices.Equal(again, want(i).reads) || !slices.Equal(kept, again) {
			t.Errorf("Reads(%+v) = %v and %v, when another list was written into", i, kept, again)
		}
	}
}
