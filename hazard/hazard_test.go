package hazard

import (
	"math"
	"slices"
	"strconv"
	"testing"

	"delayslot/api"
)

// Short forms, so that code in tests reads as code.

var nop, wrong = api.Instr{}, api.Instr{Op: 22}

func three(op int, a int, b int, c int) api.Instr { return api.Instr{Op: op, A: a, B: b, C: c} }
func two(op int, a int, b int) api.Instr          { return api.Instr{Op: op, A: a, B: b} }
func add(a int, b int, c int) api.Instr           { return three(api.Add, a, b, c) }
func addi(a int, b int) api.Instr                 { return two(api.AddI, a, b) }
func lui(a int) api.Instr                         { return api.Instr{Op: api.Lui, A: a} }
func lw(a int, b int) api.Instr                   { return two(api.Lw, a, b) }
func sw(a int, b int) api.Instr                   { return two(api.Sw, a, b) }
func check(a int, b int) api.Instr                { return two(api.Check, a, b) }
func beq(a int, b int) api.Instr                  { return two(api.Beq, a, b) }
func bne(a int, b int) api.Instr                  { return two(api.Bne, a, b) }
func jr(a int) api.Instr                          { return api.Instr{Op: api.Jr, A: a} }
func jal() api.Instr                              { return api.Instr{Op: api.Jal, Imm: 4} }
func jmp() api.Instr                              { return api.Instr{Op: api.Jmp, Imm: 4} }
func sys(call int) api.Instr                      { return api.Instr{Op: api.Sys, Imm: call} }
func list(i ...api.Instr) []api.Instr             { return i }
func faults(n ...int) []int                       { return n }

// farJmp would go, and farLw would be late, if they were right.
var farJmp, farLw = api.Instr{Op: api.Jmp, Imm: 4097}, lw(1, 32)

// wrongs has instructions that are not right, most of which look as if they go,
// are late, or read or write register 1 to 5.
func wrongs() []api.Instr {
	return list(wrong, farJmp, farLw, api.Instr{Op: -1}, three(21, 1, 2, 3), api.Instr{Op: math.MaxInt, A: 1}, api.Instr{Op: math.MinInt, A: 1},
		add(1, 2, 32), add(1, -1, 2), add(32, 1, 2), add(-1, 1, 2), api.Instr{Op: api.Add, A: 1, B: 2, C: 3, Imm: 1},
		three(api.Div, 1, 2, 32), three(api.Mod, 1, math.MinInt, 2), three(api.AddI, 2, 1, 3),
		api.Instr{Op: api.AddI, A: 2, B: 1, Imm: 32768}, api.Instr{Op: api.Lw, A: 1, B: 2, Imm: -32769},
		api.Instr{Op: api.Lw, A: 1, B: 2, Imm: 32768}, lw(32, 1), lw(-1, 1), three(api.Lw, 1, 2, 3),
		sw(1, 32), sw(32, 1), api.Instr{Op: api.Sw, A: 1, B: 2, Imm: 40000}, api.Instr{Op: api.Check, A: 1, Imm: -1}, check(1, 32),
		lui(32), two(api.Lui, 1, 2), sys(3), sys(-1), two(api.Sys, 1, 0), api.Instr{Op: api.Sys, A: 4, Imm: 1},
		api.Instr{Op: api.Sys, B: 4, Imm: 2}, api.Instr{Op: api.Sys, Imm: 1<<32 + 1}, jr(32), jr(-1), two(api.Jr, 31, 1),
		api.Instr{Op: api.Jal, Imm: 4097}, api.Instr{Op: api.Jal, Imm: -1}, api.Instr{Op: api.Jal, A: 31},
		api.Instr{Op: api.Jmp, Imm: -1}, api.Instr{Op: api.Jmp, A: 1}, beq(32, 1), three(api.Beq, 1, 2, 3),
		api.Instr{Op: api.Bne, A: 1, B: 2, Imm: 32768}, api.Instr{Op: api.Nop, A: 1}, api.Instr{Op: api.Nop, Imm: 1})
}

// rights has right instructions of each operation, with registers that are
// alike, that differ, that are 0, and at the ends.
func rights() []api.Instr {
	l := list(nop, jmp(), jal(), sys(0), sys(1), sys(2))
	for _, a := range []int{0, 1, 2, 4, 31} {
		l = append(l, lui(a), jr(a), check(a, 0), check(a, 31))
		for _, b := range []int{0, 1, 3, 4, 31} {
			l = append(l, addi(a, b), lw(a, b), sw(a, b), beq(a, b), bne(a, b))
		}
	}
	for op := api.Add; op <= api.Seq; op++ {
		for _, r := range [][3]int{{0, 0, 0}, {1, 1, 1}, {1, 2, 3}, {2, 1, 3}, {3, 2, 1}, {0, 1, 2}, {1, 0, 0}, {4, 5, 4}, {5, 4, 31}, {31, 30, 4}} {
			l = append(l, three(op, r[0], r[1], r[2]))
		}
	}
	return l
}

// goers are all operations that go.
func goers() []api.Instr { return list(beq(1, 2), bne(1, 2), jmp(), jal(), jr(1)) }

// stayers has one of each operation that is right, and neither goes nor is late.
func stayers() []api.Instr {
	l := list(nop, addi(2, 1), lui(1), sw(1, 2), check(1, 2), sys(0), sys(2))
	for op := api.Add; op <= api.Seq; op++ {
		l = append(l, three(op, 2, 1, 3))
	}
	return l
}

// P12.1: the chapter's example.
func TestExample(t *testing.T) {
	if got := At(list(lw(1, 0), add(2, 1, 0)), 0); got != 4 {
		t.Errorf("lw r1; add r2,r1,r0: at 0: %d", got)
	}
}

// seen is code, and the faults of its places.
type seen struct {
	name string
	code []api.Instr
	want []int
}

// holds what is told of code, and the reference, against hands.
func holds(t *testing.T, all []seen) {
	t.Helper()
	for _, c := range all {
		tells(t, c.name, c.code, c.want)
		if got := refAll(c.code); !slices.Equal(got, c.want) {
			t.Errorf("%s: the reference %v, want %v", c.name, got, c.want)
		}
	}
}

// P12.1: code by hand that has no fault.
func TestNone(t *testing.T) {
	holds(t, []seen{
		{"nil", nil, nil},
		{"none", list(), nil},
		{"a nop", list(nop), faults(0)},
		{"one that halts", list(sys(0)), faults(0)},
		{"one that is late, at the end", list(lw(1, 2)), faults(0)},
		{"one that reads a number, at the end", list(sys(1)), faults(0)},
		{"late, and not read", list(lw(1, 2), addi(3, 2)), faults(0, 0)},
		{"late, its address read", list(lw(1, 2), add(3, 2, 2)), faults(0, 0)},
		{"late, and read one later", list(lw(1, 2), nop, add(3, 1, 1)), faults(0, 0, 0)},
		{"late, and read one later than by itself", list(lw(1, 2), lw(3, 2), add(4, 1, 1)), faults(0, 0, 0)},
		{"late, written, and not read", list(lw(1, 2), lui(1), add(3, 1, 1)), faults(0, 0, 0)},
		{"late, written by one that is late", list(lw(1, 2), lw(1, 3)), faults(0, 0)},
		{"late, behind one that reads", list(add(3, 1, 1), lw(1, 2)), faults(0, 0)},
		{"late, with its own register as its address", list(lw(1, 1)), faults(0)},
		{"late, and checked against its number", list(lw(1, 2), check(3, 1)), faults(0, 0)},
		{"4 loaded, and a number read", list(lw(4, 2), sys(1)), faults(0, 0)},
		{"of register 0, and read", list(lw(0, 2), add(3, 0, 0)), faults(0, 0)},
		{"of register 0, and read by all that can", list(lw(0, 2), sw(0, 0), nop, lw(0, 0), beq(0, 0), nop), faults(0, 0, 0, 0, 0, 0)},
		{"of register 0, at the end", list(lw(0, 2)), faults(0)},
		{"of register 1, and 0 is read", list(lw(1, 2), add(3, 0, 0)), faults(0, 0)},
		{"a number read, and one told that is not it", list(sys(1), sw(1, 2), sys(2)), faults(0, 0, 0)},
		{"a number read, and 1 read", list(sys(1), add(3, 1, 1)), faults(0, 0)},
		{"two numbers read", list(sys(1), sys(1)), faults(0, 0)},
		{"a number read, and halted", list(sys(1), sys(0)), faults(0, 0)},
		{"one that goes, and its slot", list(jmp(), nop), faults(0, 0)},
		{"one that goes, and what tells in its slot", list(jal(), sys(2)), faults(0, 0)},
		{"one that goes, and what halts in its slot", list(jr(31), sys(0)), faults(0, 0)},
		{"two that go, a slot each", list(jmp(), nop, jmp(), nop), faults(0, 0, 0, 0)},
		{"a late one right behind a slot", list(jmp(), nop, lw(1, 2)), faults(0, 0, 0)},
		{"a late one right behind a slot, and not read", list(jmp(), nop, lw(1, 2), nop, add(3, 1, 1)), faults(0, 0, 0, 0, 0)},
		{"a late one ahead of one that goes", list(lw(1, 2), jmp(), nop), faults(0, 0, 0)},
		{"a late one, read in a slot", list(lw(1, 2), jmp(), add(3, 1, 1)), faults(0, 0, 0)},
		{"a link loaded, one between", list(lw(31, 29), addi(29, 29), jr(31), nop), faults(0, 0, 0, 0)},
		{"a link loaded, and made", list(lw(31, 29), jal(), nop), faults(0, 0, 0)},
		{"what a slot writes is read", list(jmp(), addi(1, 1), addi(2, 1)), faults(0, 0, 0)},
		{"what stays is read", list(addi(1, 0), addi(2, 1), beq(2, 1), nop), faults(0, 0, 0, 0)},
	})
}

// P12.1: each fault by hand, alone: at the first place, in the midst, and at
// the last one.
func TestEachFault(t *testing.T) {
	holds(t, []seen{
		{"not right, alone", list(wrong), faults(1)},
		{"not right, first", list(wrong, nop, nop), faults(1, 0, 0)},
		{"not right, in the midst", list(nop, wrong, nop), faults(0, 1, 0)},
		{"not right, last", list(nop, nop, wrong), faults(0, 0, 1)},
		{"it goes, alone", list(jmp()), faults(2)},
		{"it goes, last", list(nop, nop, jmp()), faults(0, 0, 2)},
		{"it goes, first, ahead of one that does", list(jmp(), beq(1, 2), nop), faults(2, 0, 0)},
		{"it goes, in the midst", list(nop, jmp(), jal(), nop), faults(0, 2, 0, 0)},
		{"it goes, as the last two do", list(nop, jmp(), jmp()), faults(0, 2, 2)},
		{"it goes, behind a slot, last", list(jmp(), nop, jmp()), faults(0, 0, 2)},
		{"three go", list(jmp(), jmp(), jmp(), nop), faults(2, 2, 0, 0)},
		{"late in a slot, first", list(jmp(), lw(1, 2), nop), faults(0, 3, 0)},
		{"late in a slot, in the midst", list(nop, jr(31), lw(1, 2), nop), faults(0, 0, 3, 0)},
		{"late in a slot, last", list(nop, beq(1, 2), lw(1, 2)), faults(0, 0, 3)},
		{"a number read in a slot", list(jmp(), sys(1)), faults(0, 3)},
		{"late in a slot, of register 0", list(jmp(), lw(0, 2)), faults(0, 3)},
		{"late in a slot of one that goes in a slot", list(jmp(), jmp(), lw(1, 2)), faults(2, 0, 3)},
		{"late in a slot, and one behind it", list(jmp(), lw(1, 2), lw(2, 3)), faults(0, 3, 0)},
		{"late and read, first", list(lw(1, 2), add(3, 1, 2), nop), faults(4, 0, 0)},
		{"late and read, in the midst", list(nop, lw(1, 2), add(3, 2, 1), nop), faults(0, 4, 0, 0)},
		{"late and read, last", list(nop, lw(1, 2), addi(3, 1)), faults(0, 4, 0)},
		{"late and read, as its address", list(lw(1, 2), lw(3, 1)), faults(4, 0)},
		{"late and read, and written", list(lw(1, 2), addi(1, 1)), faults(4, 0)},
		{"late and read, by what writes none", list(lw(1, 2), add(0, 1, 1)), faults(4, 0)},
		{"late and stored", list(lw(1, 2), sw(1, 3)), faults(4, 0)},
		{"late and stored there", list(lw(1, 2), sw(3, 1)), faults(4, 0)},
		{"late and checked", list(lw(1, 2), check(1, 3)), faults(4, 0)},
		{"late and asked", list(lw(1, 2), beq(1, 3), nop), faults(4, 0, 0)},
		{"late and asked, as the other one", list(lw(1, 2), bne(3, 1), nop), faults(4, 0, 0)},
		{"a link loaded, and gone by", list(lw(31, 29), jr(31), nop), faults(4, 0, 0)},
		{"a number read, and told", list(sys(1), sys(2)), faults(4, 0)},
		{"a number read, and 4 read", list(sys(1), addi(1, 4)), faults(4, 0)},
		{"4 loaded, and told", list(lw(4, 1), sys(2)), faults(4, 0)},
		{"each of a chain", list(lw(1, 2), lw(1, 1), lw(1, 1), add(3, 1, 1)), faults(4, 4, 4, 0)},
		{"right behind a slot", list(jmp(), nop, lw(1, 2), add(3, 1, 1)), faults(0, 0, 4, 0)},
	})
}

// P12.1: of several faults of one place the first one is told; of several
// places with one, the first place.
func TestSeveral(t *testing.T) {
	holds(t, []seen{
		{"3 and what would be 4", list(jmp(), lw(1, 2), add(3, 1, 1)), faults(0, 3, 0)},
		{"3 and what would be 4, of a number read", list(jal(), sys(1), sys(2)), faults(0, 3, 0)},
		{"1 and what would be 2, at the end", list(farJmp), faults(1)},
		{"1 and what would be 2", list(farJmp, jmp(), nop), faults(1, 0, 0)},
		{"1 and what would be 3", list(jmp(), farLw), faults(0, 1)},
		{"1 and what would be 4", list(farLw, add(3, 1, 1)), faults(1, 0)},
		{"1 and what would be 3 and 4", list(jmp(), farLw, add(3, 1, 1)), faults(0, 1, 0)},
		{"1 ahead of 2", list(wrong, jmp()), faults(1, 2)},
		{"2 ahead of 1", list(jmp(), jmp(), wrong), faults(2, 0, 1)},
		{"3 ahead of 1", list(jmp(), sys(1), wrong), faults(0, 3, 1)},
		{"3 ahead of 2", list(jmp(), lw(1, 2), jmp()), faults(0, 3, 2)},
		{"2 ahead of 3", list(jmp(), jmp(), lw(1, 2)), faults(2, 0, 3)},
		{"4 ahead of all", list(lw(1, 2), jr(1), lw(1, 2), wrong, jmp()), faults(4, 0, 3, 1, 2)},
		{"4 ahead of 2, of what is read", list(lw(1, 2), jr(1)), faults(4, 2)},
		{"all four", list(nop, sys(1), sys(2), jmp(), sys(1), wrong, jal(), jmp(), nop), faults(0, 4, 0, 0, 3, 1, 2, 0, 0)},
		{"one in each place", list(wrong, lw(1, 2), jr(1), jmp(), lw(1, 1)), faults(1, 4, 2, 0, 3)},
	})
}

// P12.1: what is not right goes nowhere, is not late, reads none and writes
// none; it is a fault of its own place alone, and as good a slot as any.
func TestWrong(t *testing.T) {
	for _, i := range wrongs() {
		holds(t, []seen{
			{"alone", list(i), faults(1)},
			{"twice", list(i, i), faults(1, 1)},
			{"in a slot", list(jmp(), i), faults(0, 1)},
			{"behind a late one", list(lw(1, 2), i), faults(0, 1)},
			{"behind a number read", list(sys(1), i), faults(0, 1)},
			{"behind a late one, and read one later", list(lw(1, 2), i, add(3, 1, 1)), faults(0, 1, 0)},
			{"ahead of what reads", list(i, add(3, 1, 2)), faults(1, 0)},
			{"ahead of a late one", list(i, lw(1, 2)), faults(1, 0)},
			{"ahead of a late one that is read", list(i, lw(1, 2), addi(3, 1)), faults(1, 4, 0)},
			{"ahead of one that goes", list(i, jmp(), nop), faults(1, 0, 0)},
			{"ahead of other faults", list(i, jmp(), jmp(), sys(1)), faults(1, 2, 0, 3)},
			{"behind other faults", list(jmp(), lw(1, 2), lw(1, 2), addi(3, 1), i), faults(0, 3, 4, 0, 1)},
		})
	}
}

// P12.1: each operation that goes, with nothing behind it, with each that goes,
// and with each that does not.
func TestEachThatGoes(t *testing.T) {
	for _, goes := range goers() {
		holds(t, []seen{
			{"with nothing behind it", list(goes), faults(2)},
			{"with nothing behind it, behind others", list(nop, addi(5, 6), goes), faults(0, 0, 2)},
			{"late behind it", list(goes, lw(1, 2)), faults(0, 3)},
			{"late behind it, and read", list(goes, lw(1, 2), addi(3, 1)), faults(0, 3, 0)},
			{"late behind its slot", list(goes, nop, lw(1, 2)), faults(0, 0, 0)},
			{"late behind its slot, and read", list(goes, nop, lw(1, 2), addi(3, 1)), faults(0, 0, 4, 0)},
			{"a number read behind it", list(goes, sys(1)), faults(0, 3)},
			{"a number read behind its slot", list(goes, nop, sys(1)), faults(0, 0, 0)},
			{"what is not right behind it", list(goes, farJmp), faults(0, 1)},
			{"what is not right ahead of a late one", list(goes, farJmp, lw(1, 2)), faults(0, 1, 0)},
		})
		for _, behind := range goers() {
			holds(t, []seen{
				{"one that goes behind it", list(goes, behind, nop), faults(2, 0, 0)},
				{"one that goes behind its slot", list(goes, nop, behind, nop), faults(0, 0, 0, 0)},
				{"both at the end", list(goes, behind), faults(2, 2)},
			})
		}
		for _, behind := range stayers() {
			holds(t, []seen{
				{"one that does not go behind it", list(goes, behind), faults(0, 0)},
				{"and one that goes behind that", list(goes, behind, goes), faults(0, 0, 2)},
			})
		}
	}
}

// P12.1: each register, written by a late one, and read, or written, or neither,
// by the one behind it.
func TestEachRegister(t *testing.T) {
	for a := range api.Regs {
		for b := range api.Regs {
			read := 0
			if a == b && a != 0 {
				read = 4
			}
			for _, i := range list(add(0, b, 0), add(a, 0, b), addi(a, b), lw(a, b), sw(0, b), sw(b, 0), check(b, a), three(api.Div, a, b, b)) {
				holds(t, []seen{{"read", list(lw(a, 0), i), faults(read, 0)}})
			}
			for _, i := range list(beq(0, b), beq(b, 0), bne(0, b), bne(b, 0), jr(b)) {
				holds(t, []seen{{"read by one that goes", list(lw(a, 0), i, nop), faults(read, 0, 0)}})
			}
			for _, i := range list(add(b, 0, 0), addi(b, 0), lw(b, 0), lui(b)) {
				holds(t, []seen{{"written", list(lw(a, 0), i), faults(0, 0)}})
			}
		}
		told, numbered := 0, 0
		if a == api.Arg {
			told, numbered = 4, 4
		}
		holds(t, []seen{
			{"told", list(lw(a, 0), sys(2)), faults(told, 0)},
			{"of a number read", list(sys(1), addi(0, a)), faults(numbered, 0)},
			{"the number is written by another one", list(sys(1), lui(a)), faults(0, 0)},
			{"neither", list(lw(a, 0), nop), faults(0, 0)},
			{"its link written", list(lw(a, 0), jal(), nop), faults(0, 0, 0)},
		})
	}
}

// P12.1, P12.2: each operation alone, ahead of each other one, and these two
// behind one that goes, and ahead of what reads.
func TestOfEachTwo(t *testing.T) {
	all := append(rights(), wrongs()...)
	for _, a := range all {
		agree(t, "one", list(a))
		for _, b := range all {
			agree(t, "two", list(a, b))
			agree(t, "two among others", list(jmp(), a, b, add(0, 1, 4)))
		}
	}
}

// few has one instruction of each kind that meets others in its own way.
func few() []api.Instr {
	return list(nop, lw(1, 2), addi(2, 1), lui(1), jmp(), beq(1, 4), sys(1), sys(2), farJmp, lw(0, 1))
}

// P12.1, P12.2: all short code.
func TestShort(t *testing.T) {
	each(few(), 4, func(code []api.Instr) { agree(t, "short", code) })
	each(list(lw(1, 1), addi(2, 1), jr(1), nop), 7, func(code []api.Instr) { agree(t, "of four kinds", code) })
}

// each hands on all lists of up to so many of these.
func each[T any](all []T, most int, tell func(l []T)) {
	var grow func(l []T)
	grow = func(l []T) {
		tell(l)
		if len(l) == most {
			return
		}
		for _, v := range all {
			grow(append(slices.Clip(l), v))
		}
	}
	grow(nil)
}

// numbers tells numbers in no order that shows, the same in each run.
type numbers struct{ state uint64 }

func (n *numbers) below(end int) int {
	n.state += 0x9e3779b97f4a7c15
	z := n.state
	z = (z ^ z>>30) * 0xbf58476d1ce4e5b9
	z = (z ^ z>>27) * 0x94d049bb133111eb
	return int(z>>33) % end
}

// some has so many instructions, of registers below an end.
func (n *numbers) some(many int, end int) []api.Instr {
	l := make([]api.Instr, many)
	for at := range l {
		a, b, c := n.below(end), n.below(end), n.below(end)
		l[at] = list(nop, lw(a, b), lw(b, c), sw(a, b), sys(n.below(3)), lui(a), addi(a, b), beq(a, b), jr(a), jal(), check(a, b),
			three(api.Add+n.below(9), a, b, c), add(a, b, c), addi(b, c), wrongs()[n.below(len(wrongs()))])[n.below(15)]
	}
	return l
}

// mended: code without what has a fault, so that it is safe.
func mended(code []api.Instr) []api.Instr {
	var safe []api.Instr
	for _, i := range code {
		does := deedsOf(i)
		switch {
		case !isRight(i):
		case does.goes, does.late:
			safe = append(safe, nop, i, nop)
		default:
			safe = append(safe, i)
		}
	}
	return safe
}

// P12.1, P12.2: longer code, of registers that are often alike, and seldom, with
// many faults, and with none, and with one at any place.
func TestLonger(t *testing.T) {
	n := numbers{1}
	for many := 4; many < 120; many++ {
		for _, end := range []int{2, 5, 32} {
			name := strconv.Itoa(many) + " of " + strconv.Itoa(end)
			agree(t, name, n.some(many, end))
			safe := mended(n.some(many, end))
			tells(t, name+", mended", safe, make([]int, len(safe)))
			agree(t, name+", mended", safe)
			at := n.below(len(safe) + 1)
			agree(t, name+", mended but for one", slices.Insert(safe, at, n.some(1, end)...))
		}
	}
	agree(t, "most code", n.some(api.MaxCode, 32))
	agree(t, "most code, mended", mended(n.some(api.MaxCode, 32)))
}

// P12.2: safe code with safe code behind it, by hand: that ends with neither
// one that goes nor a late one; with a late one, whose fault is told only if it
// is read; code that ends with one that goes is never safe.
func TestBehind(t *testing.T) {
	for _, c := range []struct {
		name  string
		ahead []api.Instr
		more  []api.Instr
		at    int
		fault int
	}{
		{"none and none", nil, nil, -1, 0},
		{"none ahead", nil, list(lw(1, 2), nop), -1, 0},
		{"none behind", list(lw(1, 2), nop), nil, -1, 0},
		{"none behind a late one", list(nop, lw(1, 2)), nil, -1, 0},
		{"neither", list(addi(1, 2)), list(add(3, 1, 1)), -1, 0},
		{"neither, and a late one behind", list(nop), list(lw(1, 2)), -1, 0},
		{"neither, and one that goes behind", list(nop), list(jmp(), nop), -1, 0},
		{"a slot, and a late one behind", list(jmp(), nop), list(lw(1, 2)), -1, 0},
		{"a slot, and one that goes behind", list(jmp(), addi(1, 1)), list(beq(1, 1), nop), -1, 0},
		{"late one place ahead of the end", list(lw(1, 2), nop), list(add(3, 1, 1)), -1, 0},
		{"late at the end, and not read", list(nop, lw(1, 2)), list(add(3, 2, 2)), -1, 0},
		{"late at the end, and read", list(nop, lw(1, 2)), list(add(3, 1, 1)), 1, 4},
		{"late at the end, and read later", list(nop, lw(1, 2)), list(nop, add(3, 1, 1)), -1, 0},
		{"late at the end, and asked", list(lw(1, 2)), list(bne(2, 1), nop), 0, 4},
		{"a number read at the end, and told", list(sys(1)), list(sys(2)), 0, 4},
		{"register 0 loaded at the end, and read", list(lw(0, 2)), list(add(3, 0, 0)), -1, 0},
	} {
		if !Safe(c.ahead) || !Safe(c.more) {
			t.Errorf("%s: safe: %t, %t", c.name, Safe(c.ahead), Safe(c.more))
		}
		both := slices.Concat(c.ahead, c.more)
		if at, fault := First(both); at != c.at || fault != c.fault || Safe(both) != (c.fault == 0) {
			t.Errorf("%s: first %d, %d, safe: %t", c.name, at, fault, Safe(both))
		}
		agree(t, c.name, both)
	}
	for _, goes := range goers() {
		for _, ahead := range append(rights(), nop) {
			if Safe(list(goes)) || Safe(list(ahead, goes)) || Safe(list(jmp(), ahead, goes)) {
				t.Errorf("%+v at the end, behind %+v, is safe", goes, ahead)
			}
		}
	}
}

// P12.2: each two of all short code that is safe.
func TestBehindEach(t *testing.T) {
	var safe [][]api.Instr
	each(few(), 3, func(code []api.Instr) {
		if Safe(code) {
			safe = append(safe, code)
		}
	})
	if len(safe) < 100 {
		t.Fatalf("of all short code just %d are safe", len(safe))
	}
	for _, ahead := range safe {
		end := len(ahead) - 1
		if end >= 0 && deedsOf(ahead[end]).goes {
			t.Errorf("%+v is safe, and ends with one that goes", ahead)
		}
		late := end >= 0 && deedsOf(ahead[end]).late
		for _, more := range safe {
			both := slices.Concat(ahead, more)
			if !late && !Safe(both) {
				t.Errorf("%+v, and behind it %+v: not safe", ahead, more)
			}
			if late {
				agree(t, "behind a late one", both)
			}
		}
	}
}

// P1, P12.1: very long code: safe, with a fault at its end alone, and with one at
// each place.
func TestVeryLong(t *testing.T) {
	const many = 300000
	for _, c := range []struct {
		name  string
		each  []api.Instr
		end   api.Instr
		at    int
		fault int
	}{
		{"of nothing", list(nop), nop, -1, 0},
		{"of late ones", list(lw(1, 2)), lw(1, 2), -1, 0},
		{"of slots", list(jmp(), nop), nop, -1, 0},
		{"of late ones and slots", list(lw(1, 2), jr(3), addi(3, 1), nop), lw(1, 2), -1, 0},
		{"the last one is not right", list(nop), wrong, many, 1},
		{"the last one goes", list(nop), jmp(), many, 2},
		{"the last one is late in a slot", list(nop, jmp()), sys(1), many, 3},
		{"the last one reads what is late", list(lw(1, 2)), add(3, 1, 1), many - 1, 4},
		{"none is right", list(wrong), wrong, 0, 1},
		{"all go", list(jmp()), jmp(), 0, 2},
		{"all are late in slots", list(jmp(), sys(1)), nop, 1, 3},
		{"all are late and read", list(lw(1, 1)), nop, 0, 4},
	} {
		code := append(slices.Repeat(c.each, many/len(c.each)), c.end)
		if at, fault := First(code); at != c.at || fault != c.fault || Safe(code) != (c.fault == 0) {
			t.Errorf("%s: first %d, %d, safe: %t", c.name, at, fault, Safe(code))
		}
		for at, want := range refAll(code) {
			if got := At(code, at); got != want {
				t.Fatalf("%s: the fault %d at %d, want %d", c.name, got, at, want)
			}
		}
	}
}

// P1, P12.1: where there is no such place there is no fault.
func TestNoPlace(t *testing.T) {
	for _, code := range [][]api.Instr{nil, list(), list(nop), list(jmp()), list(wrong), list(jmp(), lw(1, 2)), list(lw(1, 2), addi(3, 1))} {
		for _, at := range []int{-1, -2, math.MinInt, math.MinInt + 1, -1 << 32, len(code), len(code) + 1, 1 << 32, 1<<32 + 1, math.MaxInt - 1, math.MaxInt} {
			if got := At(code, at); got != 0 {
				t.Errorf("%+v: the fault %d at %d", code, got, at)
			}
		}
	}
}

// R1: code is read up to its end, whatever stands behind and ahead of it in its
// memory, and is the same behind a call as ahead of it.
func TestMemoryBeside(t *testing.T) {
	room := list(jmp(), lw(1, 2), add(3, 1, 1), jr(1), nop)
	given := slices.Clone(room)
	for _, c := range []struct {
		name string
		code []api.Instr
		want []int
	}{
		{"its slot stands behind it", room[:1], faults(2)},
		{"what reads stands behind it", room[1:2], faults(0)},
		{"what goes stands ahead of it", room[1:3], faults(4, 0)},
		{"what is late stands ahead of it", room[2:3], faults(0)},
		{"a slot behind the last one", room[2:4], faults(0, 2)},
		{"none of it", room[5:], faults()},
		{"none at its beginning", room[:0], faults()},
	} {
		tells(t, c.name, c.code, c.want)
	}
	if !slices.Equal(room, given) {
		t.Errorf("%+v", room)
	}
}

// R4, R5: the same each time; code that is nil and code that is empty are the
// same.
func TestSameAgain(t *testing.T) {
	for _, code := range [][]api.Instr{nil, list()} {
		at, fault := First(code)
		if At(code, 0) != 0 || at != -1 || fault != 0 || !Safe(code) {
			t.Errorf("none: %d, first %d, %d, safe: %t", At(code, 0), at, fault, Safe(code))
		}
	}
	code := list(nop, lw(1, 2), jr(1), sys(1))
	for range 3 {
		tells(t, "again", code, faults(0, 4, 0, 3))
	}
}
