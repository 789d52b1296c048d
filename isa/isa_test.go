package isa

import (
	"math"
	"strings"
	"testing"

	"delayslot/api"
)

const round = 1 << 32

// row is a row of the chapter's table, for one operation: its parts by their
// letters (I is Imm), and the bounds of Imm.
type row struct {
	op              int
	has             string
	least, greatest int
}

// table is the chapter's, by the operations' numbers, and with all numbers
// written out, so that a change of the program's own shows.
var table = []row{
	{0, "", 0, 0},
	{1, "ABC", 0, 0}, {2, "ABC", 0, 0}, {3, "ABC", 0, 0}, {4, "ABC", 0, 0}, {5, "ABC", 0, 0},
	{6, "ABC", 0, 0}, {7, "ABC", 0, 0}, {8, "ABC", 0, 0}, {9, "ABC", 0, 0},
	{10, "ABI", -32768, 32767},
	{11, "AI", -32768, 32767},
	{12, "ABI", -32768, 32767}, {13, "ABI", -32768, 32767},
	{14, "ABI", 0, 32767},
	{15, "ABI", -32768, 32767}, {16, "ABI", -32768, 32767},
	{17, "I", 0, 4096}, {18, "I", 0, 4096},
	{19, "A", 0, 0},
	{20, "I", 0, 2},
}

// operations are api's, in the order of the table.
func operations() []int {
	return []int{api.Nop, api.Add, api.Sub, api.Mul, api.Div, api.Mod, api.And, api.Or, api.Slt, api.Seq, api.AddI,
		api.Lui, api.Lw, api.Sw, api.Check, api.Beq, api.Bne, api.Jmp, api.Jal, api.Jr, api.Sys}
}

func (r row) isPart(letter string, n int) bool {
	switch {
	case !strings.Contains(r.has, letter):
		return n == 0
	case letter == "I":
		return r.least <= n && n <= r.greatest
	}
	return 0 <= n && n <= 31
}

// wantRight is the reference of Right.
func wantRight(i api.Instr) bool {
	if i.Op < 0 || i.Op >= len(table) {
		return false
	}
	r := table[i.Op]
	return r.isPart("A", i.A) && r.isPart("B", i.B) && r.isPart("C", i.C) && r.isPart("I", i.Imm)
}

// wantWord is the reference of Encode, for a right instruction: the sum that
// the chapter tells.
func wantWord(i api.Instr) int {
	imm := i.Imm
	if imm < 0 {
		imm += 65536
	}
	return i.Op*67108864 + i.A*2097152 + i.B*65536 + i.C*2048 + imm
}

// registers has those at the edges, some between, and numbers that are none;
// among these some whose lowest bits are a register's.
func registers() []int {
	return []int{0, 1, 2, 7, 15, 16, 29, 30, 31, 32, 33, 63, 64, 1 << 11, 1 << 16, 1 << 26, 1 << 31, round, round + 1, 1 << 59,
		-1, -2, -31, -32, -33, -round, -round + 1, math.MaxInt, math.MinInt, math.MinInt + 1}
}

// immediates has the bounds of each operation's Imm, the numbers beside them,
// and numbers of any size; among these some whose lowest bits are an Imm's.
func immediates() []int {
	return []int{0, 1, 2, 3, 4, 255, 2047, 2048, 2049, 4095, 4096, 4097, 12345, 32766, 32767, 32768, 32769,
		65534, 65535, 65536, 65537, 1 << 26, 1 << 31, round - 1, round, round + 1, math.MaxInt - 1, math.MaxInt,
		-1, -2, -3, -2048, -4096, -4097, -32767, -32768, -32769, -32770, -65535, -65536, -65537, -round, -round + 1,
		math.MinInt, math.MinInt + 1}
}

// noOperations has the numbers beside the operations, and some whose lowest
// bits are an operation's.
func noOperations() []int {
	return []int{-1, -2, -20, -64, 21, 22, 31, 32, 63, 64, 65, 84, 255, 1 << 16, 1 << 26, 1 << 31, 1 << 38, 1 << 58, round, round + 1, round + 20,
		-round, -round + 1, math.MaxInt, math.MinInt, math.MinInt + 1}
}

// instructions has, of each operation, right and wrong ones: each part at all
// numbers, and the other parts at ordinary ones, right and wrong.
func instructions() []api.Instr {
	var l []api.Instr
	for _, op := range append(operations(), noOperations()...) {
		for _, rest := range []api.Instr{{}, {A: 1}, {A: 3, B: 5}, {A: 3, B: 5, C: 7}, {A: 3, B: 5, Imm: 9}, {A: 3, Imm: 9}, {Imm: 2},
			{A: 31, B: 31, C: 31}, {A: 31, B: 31, Imm: -32768}, {A: 31, B: 31, C: 31, Imm: 1}} {
			rest.Op = op
			l = append(l, rest)
			for _, n := range registers() {
				a, b, c := rest, rest, rest
				a.A, b.B, c.C = n, n, n
				l = append(l, a, b, c)
			}
			for _, n := range immediates() {
				imm := rest
				imm.Imm = n
				l = append(l, imm)
			}
		}
	}
	return l
}

// P2.1: the operations are those of the table, by their names.
func TestOperationsAreTheTables(t *testing.T) {
	for i, op := range operations() {
		if op != i || table[i].op != i {
			t.Errorf("operation %d has the number %d, and stands in the row of %d", i, op, table[i].op)
		}
	}
}

// P2.1: an instruction of each operation has the word that is reckoned by hand.
func TestEachOperation(t *testing.T) {
	cases := []struct {
		i api.Instr
		w int
	}{
		{api.Instr{Op: api.Nop}, 0x00000000},
		{api.Instr{Op: api.Add, A: 1, B: 2, C: 3}, 0x04221800},
		{api.Instr{Op: api.Sub, A: 31, B: 31, C: 31}, 0x0bfff800},
		{api.Instr{Op: api.Mul, A: 8, B: 9, C: 10}, 0x0d095000},
		{api.Instr{Op: api.Div, A: 0, B: 0, C: 1}, 0x10000800},
		{api.Instr{Op: api.Mod, A: 0, B: 1, C: 0}, 0x14010000},
		{api.Instr{Op: api.And, A: 1, B: 0, C: 0}, 0x18200000},
		{api.Instr{Op: api.Or, A: 16, B: 16, C: 16}, 0x1e108000},
		{api.Instr{Op: api.Slt, A: 30, B: 29, C: 4}, 0x23dd2000},
		{api.Instr{Op: api.Seq}, 0x24000000},
		{api.Instr{Op: api.AddI, A: 1, B: 2, Imm: -1}, 0x2822ffff},
		{api.Instr{Op: api.Lui, A: 5, Imm: -32768}, 0x2ca08000},
		{api.Instr{Op: api.Lw, A: 4, B: 30, Imm: -3}, 0x309efffd},
		{api.Instr{Op: api.Sw, A: 31, B: 29, Imm: 32767}, 0x37fd7fff},
		{api.Instr{Op: api.Check, A: 3, B: 5, Imm: 10}, 0x3865000a},
		{api.Instr{Op: api.Beq, A: 1, B: 0, Imm: -2}, 0x3c20fffe},
		{api.Instr{Op: api.Bne, A: 0, B: 1, Imm: 2}, 0x40010002},
		{api.Instr{Op: api.Jmp, Imm: 4096}, 0x44001000},
		{api.Instr{Op: api.Jal, Imm: 4095}, 0x48000fff},
		{api.Instr{Op: api.Jr, A: 31}, 0x4fe00000},
		{api.Instr{Op: api.Sys, Imm: 2}, 0x50000002},
	}
	for _, c := range cases {
		if !Right(c.i) {
			t.Errorf("%+v is not right", c.i)
		}
		if w, ok := Encode(c.i); w != c.w || !ok {
			t.Errorf("Encode(%+v) = %#x, %v, want %#x, true", c.i, w, ok, c.w)
		}
		if i, ok := Decode(c.w); i != c.i || !ok {
			t.Errorf("Decode(%#x) = %+v, %v, want %+v, true", c.w, i, ok, c.i)
		}
	}
}

// P2.1: the bounds of each operation's Imm, and the numbers beside them.
func TestBoundsOfImm(t *testing.T) {
	for _, r := range table {
		for _, c := range []struct {
			imm  int
			want bool
		}{{r.least - 1, false}, {r.least, true}, {r.greatest, true}, {r.greatest + 1, false}} {
			i := api.Instr{Op: r.op, Imm: c.imm}
			if got := Right(i); got != c.want {
				t.Errorf("Right(%+v) = %v, want %v", i, got, c.want)
			}
			if _, got := Encode(i); got != c.want {
				t.Errorf("Encode(%+v) = %v, want %v", i, got, c.want)
			}
		}
	}
}

// P2.1: an operation has all registers, where it has one, and but 0, where not.
func TestBoundsOfRegisters(t *testing.T) {
	for _, r := range table {
		for n := -40; n <= 80; n++ {
			for letter, i := range map[string]api.Instr{"A": {Op: r.op, A: n}, "B": {Op: r.op, B: n}, "C": {Op: r.op, C: n}} {
				want := n == 0 || strings.Contains(r.has, letter) && 0 < n && n < 32
				if got := Right(i); got != want {
					t.Errorf("Right(%+v) = %v, want %v", i, got, want)
				}
			}
		}
	}
}

// P2.1: Right and Encode, of right and wrong instructions, against the
// references; P2.2: what is encoded is decoded.
func TestInstructions(t *testing.T) {
	count := 0
	for _, i := range instructions() {
		right := wantRight(i)
		if got := Right(i); got != right {
			t.Errorf("Right(%+v) = %v, want %v", i, got, right)
		}
		w, ok := Encode(i)
		if !right {
			if w != 0 || ok {
				t.Errorf("Encode(%+v) = %d, %v, want 0, false", i, w, ok)
			}
			continue
		}
		count++
		if w != wantWord(i) || !ok || w < 0 || w >= round {
			t.Errorf("Encode(%+v) = %d, %v, want %d, true", i, w, ok, wantWord(i))
		}
		if back, is := Decode(w); back != i || !is {
			t.Errorf("Decode(%d) = %+v, %v, want %+v, true", w, back, is, i)
		}
	}
	if count < 1000 {
		t.Errorf("only %d instructions are right", count)
	}
}

// wantDecode is the reference of Decode: it tries, for the word's operation,
// all that its bits could tell, and takes what is right and has that word.
func wantDecode(w int) (api.Instr, bool) {
	if w < 0 || w >= round {
		return api.Instr{}, false
	}
	high, low := w/65536, w%65536
	i := api.Instr{Op: high / 1024, A: high / 32 % 32, B: high % 32}
	for _, rest := range []struct{ c, imm int }{{low / 2048, 0}, {0, low}, {0, low - 65536}} {
		i.C, i.Imm = rest.c, rest.imm
		if wantRight(i) && wantWord(i) == w {
			return i, true
		}
	}
	return api.Instr{}, false
}

// holdDecode holds Decode of a word against its reference, and what it tells
// against Right and Encode.
func holdDecode(t *testing.T, w int) {
	t.Helper()
	want, is := wantDecode(w)
	i, ok := Decode(w)
	if i != want || ok != is {
		t.Errorf("Decode(%d) = %+v, %v, want %+v, %v", w, i, ok, want, is)
	}
	if !ok {
		return
	}
	if again, right := Encode(i); again != w || !right || !Right(i) {
		t.Errorf("Decode(%d) = %+v, whose word is %d, %v", w, i, again, right)
	}
}

// P2.1, P2.2: words at the edges: of all operations and those that are none,
// of all registers, and of lowest bits at the edges.
func TestDecodeEdges(t *testing.T) {
	lows := []int{0, 1, 2, 3, 2047, 2048, 2049, 4095, 4096, 4097, 4098, 32766, 32767, 32768, 32769, 63488, 63489, 65534, 65535}
	for op := range 64 {
		for regs := range 1024 {
			for _, low := range lows {
				holdDecode(t, op<<26|regs<<16|low)
			}
		}
	}
}

// P2.1, P2.2: words with all lowest bits.
func TestDecodeLowestBits(t *testing.T) {
	for op := range 22 {
		for _, regs := range []int{0, 1, 32, 3*32 + 5} {
			for low := range 65536 {
				holdDecode(t, op<<26|regs<<16|low)
			}
		}
	}
}

// P2.1: what is no word is not decoded, be its lowest bits those of a right
// instruction.
func TestDecodeNoWords(t *testing.T) {
	far := []int{-1, -2, -65536, -1 << 26, -1 << 31, -round, -round - 1, round, round + 1, round + 1<<26, 2*round - 1, 1 << 58, 1 << 62,
		math.MaxInt, math.MaxInt - 1, math.MinInt, math.MinInt + 1}
	for _, i := range instructions() {
		if w, ok := Encode(i); ok {
			far = append(far, w+round, w-round, w+1<<40, w-1<<40, w+math.MinInt, w-1<<31-round)
		}
	}
	for _, w := range far {
		if i, ok := Decode(w); i != (api.Instr{}) || ok {
			t.Errorf("Decode(%d) = %+v, %v, want nothing, false", w, i, ok)
		}
	}
}

// P2.1: words at both ends, and those that the chapter names, and wrong ones.
func TestDecodeNamed(t *testing.T) {
	if i, ok := Decode(0); i != (api.Instr{Op: api.Nop}) || !ok {
		t.Errorf("Decode(0) = %+v, %v", i, ok)
	}
	none := []int{-1, 1, 2, 1 << 11, 1 << 16, 1 << 21, 21 << 26, 63 << 26, round - 2, round - 1, round, round + 1,
		1<<26 | 1, 1<<26 | 1<<10, 9<<26 | 2047, // below C
		11<<26 | 1<<16,                 // Lui has no B
		14<<26 | 32768, 14<<26 | 65535, // a Check below 0
		17<<26 | 4097, 18<<26 | 4097, 17<<26 | 65535, 18<<26 | 1<<16, 17<<26 | 1<<21,
		19<<26 | 1, 19<<26 | 1<<16, 19<<26 | 1<<11,
		20<<26 | 3, 20<<26 | 65535, 20<<26 | 1<<16, 20<<26 | 1<<21}
	for _, w := range none {
		if i, ok := Decode(w); i != (api.Instr{}) || ok {
			t.Errorf("Decode(%d) = %+v, %v, want nothing, false", w, i, ok)
		}
	}
}

// P2.2: no two right instructions have one word.
func TestWordsDiffer(t *testing.T) {
	whose := map[int]api.Instr{}
	for _, i := range instructions() {
		w, ok := Encode(i)
		if !ok {
			continue
		}
		if other, is := whose[w]; is && other != i {
			t.Errorf("%+v and %+v have the word %d", i, other, w)
		}
		whose[w] = i
	}
}
