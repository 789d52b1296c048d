package sched

import (
	"math"
	"slices"
	"strconv"
	"testing"

	"delayslot/api"
	"delayslot/depend"
)

// Short forms, so that lists in tests read as lists of instructions.

var nop, wrong = api.Instr{}, api.Instr{Op: 22}

func three(op int, a int, b int, c int) api.Instr { return api.Instr{Op: op, A: a, B: b, C: c} }
func two(op int, a int, b int) api.Instr          { return api.Instr{Op: op, A: a, B: b} }
func add(a int, b int, c int) api.Instr           { return three(api.Add, a, b, c) }
func div(a int, b int, c int) api.Instr           { return three(api.Div, a, b, c) }
func addi(a int, b int) api.Instr                 { return two(api.AddI, a, b) }
func lui(a int) api.Instr                         { return api.Instr{Op: api.Lui, A: a} }
func lw(a int, b int) api.Instr                   { return two(api.Lw, a, b) }
func sw(a int, b int) api.Instr                   { return two(api.Sw, a, b) }
func check(a int) api.Instr                       { return two(api.Check, a, 9) }
func beq(a int, b int) api.Instr                  { return two(api.Beq, a, b) }
func bne(a int, b int) api.Instr                  { return two(api.Bne, a, b) }
func jr(a int) api.Instr                          { return api.Instr{Op: api.Jr, A: a} }
func jal() api.Instr                              { return api.Instr{Op: api.Jal, Imm: 4} }
func jmp() api.Instr                              { return api.Instr{Op: api.Jmp, Imm: 4} }
func sys(call int) api.Instr                      { return api.Instr{Op: api.Sys, Imm: call} }
func list(i ...api.Instr) []api.Instr             { return i }
func order(n ...int) []int                        { return n }

// wrongs has instructions that are not right, most of which look as if they
// read or write register 1 to 5, act, or are late.
func wrongs() []api.Instr {
	return list(wrong, api.Instr{Op: -1}, api.Instr{Op: 21, A: 1, B: 2, C: 3}, api.Instr{Op: math.MaxInt, A: 1}, api.Instr{Op: math.MinInt, A: 1},
		add(1, 2, 32), add(1, -1, 2), add(32, 1, 2), add(-1, 1, 2), api.Instr{Op: api.Add, A: 1, B: 2, C: 3, Imm: 1},
		div(1, 2, 32), div(1, 2, -1), div(math.MaxInt, 1, 2), div(1, math.MinInt, 2), three(api.AddI, 1, 2, 3),
		api.Instr{Op: api.AddI, A: 1, B: 2, Imm: 32768}, api.Instr{Op: api.Lw, A: 1, B: 2, Imm: -32769},
		api.Instr{Op: api.Lw, A: 1, B: 2, Imm: 32768}, lw(32, 1), lw(1, 32), lw(-1, 1), three(api.Lw, 1, 2, 3),
		sw(1, 32), sw(32, 1), api.Instr{Op: api.Sw, A: 1, B: 2, Imm: 40000}, api.Instr{Op: api.Check, A: 1, Imm: -1}, two(api.Check, 1, 32),
		lui(32), two(api.Lui, 1, 2), sys(3), sys(-1), two(api.Sys, 1, 0), api.Instr{Op: api.Sys, A: 4, Imm: 1},
		api.Instr{Op: api.Sys, B: 4, Imm: 2}, api.Instr{Op: api.Sys, Imm: 1 << 32}, jr(32), jr(-1), two(api.Jr, 31, 1),
		api.Instr{Op: api.Jal, Imm: 4097}, api.Instr{Op: api.Jal, Imm: -1}, api.Instr{Op: api.Jal, A: 31},
		beq(32, 1), three(api.Beq, 1, 2, 3), api.Instr{Op: api.Nop, A: 1}, api.Instr{Op: api.Nop, Imm: 1})
}

// rights has right instructions of each operation, with registers that are
// alike, that differ, that are 0, and at the ends.
func rights() []api.Instr {
	l := list(nop, jmp(), jal(), sys(0), sys(1), sys(2))
	for _, a := range []int{0, 1, 2, 4, 31} {
		l = append(l, lui(a), jr(a), check(a))
		for _, b := range []int{0, 1, 3, 4, 31} {
			l = append(l, addi(a, b), lw(a, b), sw(a, b), beq(a, b), two(api.Bne, a, b), two(api.Check, a, b))
		}
	}
	for op := api.Add; op <= api.Seq; op++ {
		for _, r := range [][3]int{{0, 0, 0}, {1, 1, 1}, {1, 2, 3}, {2, 1, 3}, {3, 2, 1}, {0, 1, 2}, {1, 0, 0}, {4, 5, 4}, {5, 4, 31}, {31, 30, 4}} {
			l = append(l, three(op, r[0], r[1], r[2]))
		}
	}
	return l
}

// P11.1: the chapter's example.
func TestExample(t *testing.T) {
	l := list(lw(1, 0), add(2, 1, 1), jmp())
	if got := Lay(l); !slices.Equal(got, order(0, -1, 2, 1)) {
		t.Errorf("lw r1; add r2,r1,r1; jmp: %v", got)
	}
}

// made is a list, and what is asked of it.
type made struct {
	name string
	l    []api.Instr
	want []int
}

// holds what a function tells of lists, and the reference, against hands.
func holds(t *testing.T, all []made, tell func(l []api.Instr) []int, ref func(l []api.Instr) []int) {
	t.Helper()
	for _, c := range all {
		if got := tell(c.l); !slices.Equal(got, c.want) {
			t.Errorf("%s: %v, want %v", c.name, got, c.want)
		}
		if got := ref(c.l); !slices.Equal(got, c.want) {
			t.Errorf("%s: the reference %v, want %v", c.name, got, c.want)
		}
		agree(t, c.name, c.l)
	}
}

// P11.1: orders by hand.
func TestOrder(t *testing.T) {
	holds(t, []made{
		{"nil", nil, nil},
		{"none", list(), nil},
		{"one", list(nop), order(0)},
		{"one that is late", list(lw(1, 2)), order(0)},
		{"one that goes", list(jmp()), order(0)},
		{"one, not right", list(wrong), order(0)},
		{"nothing alike", list(add(1, 8, 9), addi(2, 8), lui(3), beq(8, 9)), order(0, 1, 2, 3)},
		{"a chain of reads", list(addi(1, 0), addi(2, 1), addi(3, 2)), order(0, 1, 2)},
		{"a chain of late ones", list(lw(1, 0), lw(2, 1), add(3, 2, 0)), order(0, -1, 1, -1, 2)},
		{"a chain of one register", list(lw(1, 1), lw(1, 1), lw(1, 1)), order(0, -1, 1, -1, 2)},
		{"a chain of writes", list(lui(1), lui(1), lui(1)), order(0, 1, 2)},
		{"a chain of acts", list(sw(1, 2), check(3), div(4, 5, 6), sys(0)), order(0, 1, 2, 3)},
		{"late, read behind it", list(lw(1, 9), add(2, 1, 1)), order(0, -1, 1)},
		{"late, another one between", list(lw(1, 9), add(2, 1, 1), addi(3, 4)), order(0, 2, 1)},
		{"late, one of two between", list(lw(1, 9), add(2, 1, 1), addi(3, 4), addi(5, 6)), order(0, 2, 1, 3)},
		{"late, one ahead comes between", list(addi(3, 4), lw(1, 9), add(2, 1, 1)), order(1, 0, 2)},
		{"late, read, and what reads that", list(lw(1, 9), addi(2, 1), addi(3, 2), addi(4, 3), nop), order(0, 4, 1, 2, 3)},
		{"late, what may come between awaits the same", list(lw(1, 9), add(2, 1, 1), addi(3, 1)), order(0, -1, 1, 2)},
		{"late, written again and read", list(lw(1, 9), lui(1), addi(2, 1)), order(0, 1, 2)},
		{"late, read, and written again", list(lw(1, 9), addi(2, 1), addi(1, 5), addi(6, 1)), order(0, -1, 1, 2, 3)},
		{"late, its address written", list(lw(1, 9), addi(9, 5), addi(2, 1)), order(0, 1, 2)},
		{"late, of register 0", list(lw(0, 9), add(2, 0, 0)), order(0, 1)},
		{"two late ones", list(lw(1, 9), lw(2, 9), add(3, 1, 2)), order(0, 1, -1, 2)},
		{"two late ones, read one by one", list(lw(1, 9), addi(3, 1), lw(2, 9), addi(4, 2)), order(0, 2, 1, 3)},
		{"a number read and told", list(sys(1), sys(2)), order(0, -1, 1)},
		{"a number read and told, others about", list(lui(5), sys(1), sys(2), lui(6)), order(1, 0, 2, 3)},
		{"the higher one stands later", list(nop, addi(1, 0), addi(2, 1)), order(1, 0, 2)},
		{"the highest one stands behind others", list(nop, lui(9), addi(1, 0), lw(2, 1), sw(2, 29)), order(2, 3, 0, 1, 4)},
		{"the longer chain stands later", list(addi(1, 0), addi(2, 1), addi(5, 0), addi(6, 5), addi(7, 6)), order(2, 0, 3, 1, 4)},
		{"the same heights", list(lui(1), lui(2), addi(3, 1), addi(4, 2)), order(0, 1, 2, 3)},
		{"the same heights, the first one awaited", list(lui(1), lui(2), addi(4, 2), addi(3, 1)), order(0, 1, 2, 3)},
		{"the same heights, free from one place on", list(lw(1, 9), lw(2, 9), nop, addi(4, 2), addi(3, 1)), order(0, 1, 2, 3, 4)},
		{"late ones count two", list(addi(1, 0), addi(2, 1), lw(3, 9), addi(4, 3)), order(2, 0, 1, 3)},
		{"what goes, ahead", list(jmp(), lui(1), addi(2, 1)), order(1, 0, 2)},
		{"what goes, and is read", list(jal(), jr(31), lui(31)), order(0, 1, 2)},
		{"wrong ones", list(wrong, wrong), order(0, 1)},
		{"a wrong one between", list(lw(1, 9), wrong, add(2, 1, 1)), order(0, 1, 2)},
		{"a wrong one behind", list(lw(1, 9), add(2, 1, 1), add(1, 2, 32)), order(0, 2, 1)},
		{"wrong ones alike", list(lw(1, 32), add(2, 1, 1), lui(1)), order(1, 0, 2)},
	}, Order, func(l []api.Instr) []int { return refOrder(fars(l)) })
}

// P11.1: lists by hand whose last one does not go.
func TestLay(t *testing.T) {
	holds(t, []made{
		{"nil", nil, nil},
		{"none", list(), nil},
		{"one", list(nop), order(0)},
		{"one, not right", list(wrong), order(0)},
		{"one that is late", list(lw(1, 9)), order(0, -1)},
		{"one that reads a number", list(sys(1)), order(0, -1)},
		{"one that tells a number", list(sys(2)), order(0)},
		{"one that halts", list(sys(0)), order(0)},
		{"one that is late, of register 0", list(lw(0, 9)), order(0, -1)},
		{"one that would be late, but is not right", list(lw(1, 32)), order(0)},
		{"late and read", list(lw(1, 9), add(2, 1, 1)), order(0, -1, 1)},
		{"late, of register 0, and another one", list(lw(0, 9), add(2, 0, 0)), order(0, 1)},
		{"late at the end", list(addi(3, 4), lw(1, 9)), order(0, 1, -1)},
		{"late at the end of both", list(addi(3, 4), lw(3, 3)), order(0, 1, -1)},
		{"late at the end of the list alone", list(lw(1, 9), add(2, 1, 1), lw(5, 9)), order(0, 2, 1)},
		{"late at the end of the order alone", list(lw(1, 9), lw(2, 1), nop), order(0, 2, 1, -1)},
		{"late behind -1", list(lw(1, 9), lw(2, 1)), order(0, -1, 1, -1)},
		{"late at the end, of register 0", list(lui(1), lw(0, 1)), order(0, 1, -1)},
		{"what goes ahead", list(jmp(), lui(1)), order(0, 1)},
		{"what goes ahead of a late one", list(jmp(), lw(1, 9)), order(0, 1, -1)},
		{"what goes at the end of the order alone", list(lw(1, 9), beq(1, 0), nop), order(0, 2, 1)},
		{"what would go, but is not right", list(lw(1, 9), api.Instr{Op: api.Jmp, Imm: 4097}), order(0, 1)},
		{"what would go, ahead of a late one", list(api.Instr{Op: api.Jmp, Imm: 4097}, lw(1, 9)), order(0, 1, -1)},
		{"most places", list(lw(1, 1), lw(1, 1), lw(1, 1)), order(0, -1, 1, -1, 2, -1)},
	}, Lay, refLay)
}

// P11.1: lists by hand whose last one goes: a slot that is filled, and each
// reason why it is not.
func TestLayGoing(t *testing.T) {
	holds(t, []made{
		{"late, and read by the one that fills", list(lw(1, 0), add(2, 1, 1), jmp()), order(0, -1, 2, 1)},
		{"one ahead", list(addi(3, 4), beq(8, 9)), order(1, 0)},
		{"a nop ahead", list(nop, jmp()), order(1, 0)},
		{"a wrong one ahead", list(wrong, jmp()), order(1, 0)},
		{"one that acts", list(sw(1, 2), jr(31)), order(1, 0)},
		{"one that reads what is read", list(addi(3, 8), beq(8, 9)), order(1, 0)},
		{"two ahead", list(addi(3, 4), addi(5, 6), jmp()), order(0, 2, 1)},
		{"two ahead, the one at the end of the order", list(nop, addi(1, 0), addi(2, 1), nop, jmp()), order(1, 0, 2, 4, 3)},
		{"one must stay one place ahead, another one fills", list(addi(8, 0), addi(3, 4), beq(8, 0)), order(0, 2, 1)},
		{"one must stay two places ahead, another one fills", list(lw(1, 9), addi(3, 4), addi(5, 6), beq(1, 0)), order(0, 1, 3, 2)},
		{"one must stay two places ahead, behind -1", list(lw(1, 9), add(2, 1, 1), beq(1, 0)), order(0, -1, 2, 1)},
		{"a link loaded, another one fills", list(lw(31, 29), addi(29, 29), lui(3), jr(31)), order(0, 1, 3, 2)},
		{"what goes fills", list(beq(8, 9), jmp()), order(1, 0)},

		{"there is none", list(jmp()), order(0, -1)},
		{"it is late", list(lw(1, 9), jmp()), order(0, 1, -1)},
		{"it is late, of register 0", list(lw(0, 9), jmp()), order(0, 1, -1)},
		{"it reads a number", list(sys(1), jmp()), order(0, 1, -1)},
		{"it is late, and none awaits it, behind another one", list(addi(3, 4), lw(1, 9), jmp()), order(0, 1, 2, -1)},
		{"it would be late, but is not right", list(lw(1, 32), jmp()), order(1, 0)},
		{"it is read", list(addi(8, 9), beq(8, 0)), order(0, 1, -1)},
		{"it is read as the other one", list(addi(8, 9), beq(0, 8)), order(0, 1, -1)},
		{"its link is read", list(addi(31, 9), jr(31)), order(0, 1, -1)},
		{"its link is written again", list(addi(31, 9), jal()), order(0, 1, -1)},
		{"it reads the link that is written", list(add(5, 31, 0), jal()), order(0, 1, -1)},
		{"it reads the link that is read", list(add(5, 31, 0), jr(31)), order(1, 0)},
		{"another one is not awaited, it is", list(addi(3, 4), addi(8, 0), beq(8, 0)), order(0, 1, 2, -1)},
		{"late and read, with none between", list(lw(1, 9), beq(1, 0)), order(0, -1, 1, -1)},
		{"a link loaded", list(lw(31, 29), jr(31)), order(0, -1, 1, -1)},
		{"late, and its link written again", list(lw(31, 29), jal()), order(0, 1, -1)},
		{"a number read", list(sys(1), beq(4, 0)), order(0, -1, 1, -1)},
		{"late and read, behind others", list(lui(5), lui(6), lw(1, 9), beq(1, 0)), order(0, 1, 2, -1, 3, -1)},
		{"late and read, behind -1", list(lw(1, 9), lw(2, 1), beq(2, 0)), order(0, -1, 1, -1, 2, -1)},
		{"late and read, one between", list(lw(1, 9), addi(3, 4), beq(1, 0)), order(0, 1, 2, -1)},
		{"late and read, what reads it too must not fill", list(lw(1, 9), add(2, 1, 1), beq(1, 2)), order(0, -1, 1, 2, -1)},
		{"late and read, behind one that would fill", list(lw(1, 9), addi(3, 1), lw(2, 9), bne(2, 1)), order(0, 2, 1, 3, -1)},
		{"what goes must stay ahead", list(jal(), jr(31)), order(0, 1, -1)},
	}, Lay, refLay)
}

// goers are all operations that go, so that they read no register from 1 to 5.
func goers() []api.Instr { return list(beq(30, 29), bne(30, 29), jmp(), jal(), jr(30)) }

// P11.1: each operation at the end, alone and behind one that may stand in a
// slot: what goes has one, filled or not; what is late has one that is not.
func TestLayOfEachOperation(t *testing.T) {
	for _, i := range rights() {
		alone, behind := order(0), order(0, 1)
		switch i.Op {
		case api.Beq, api.Bne, api.Jmp, api.Jal, api.Jr:
			alone, behind = order(0, -1), order(1, 0)
		case api.Lw:
			alone, behind = order(0, -1), order(0, 1, -1)
		case api.Sys:
			if i.Imm == api.Read {
				alone, behind = order(0, -1), order(0, 1, -1)
			}
		}
		holds(t, []made{
			{"alone", list(i), alone},
			{"behind a nop", list(nop, i), behind},
			{"behind one that is not right", list(wrong, i), behind},
		}, Lay, refLay)
		agree(t, "behind what it may await", list(lw(1, 9), addi(4, 3), lw(31, 29), i))
	}
	for _, i := range goers() {
		holds(t, []made{
			{"behind one alike", list(addi(3, 4), i), order(1, 0)},
			{"behind a late one", list(lw(3, 4), i), order(0, 1, -1)},
			{"behind a late one and another one", list(lw(3, 4), addi(5, 4), i), order(0, 2, 1)},
			{"behind a late one and what reads it", list(lw(3, 4), addi(5, 3), i), order(0, -1, 2, 1)},
			{"not the last one", list(i, addi(3, 4)), order(0, 1)},
		}, Lay, refLay)
	}
}

// P11.1: each operation ahead of each other one, and ahead of one that goes
// behind both.
func TestOfEachTwo(t *testing.T) {
	all := append(rights(), wrongs()...)
	for _, a := range all {
		for _, b := range all {
			agree(t, "two", list(a, b))
		}
	}
	kinds := append(few(), goers()...)
	for _, a := range all {
		for _, b := range kinds {
			agree(t, "three", list(a, b, jmp()))
			agree(t, "three, the last one reads", list(a, b, beq(1, 4)))
		}
	}
}

// few has one instruction of each kind that meets others in its own way.
func few() []api.Instr {
	return list(nop, lw(1, 2), addi(2, 1), addi(1, 0), sw(1, 2), sys(1), beq(4, 1), jmp(), add(32, 1, 1))
}

// P11.1, P11.2: all short lists, and longer ones of fewer kinds.
func TestShortLists(t *testing.T) {
	each(few(), 4, func(l []api.Instr) { agree(t, "short", l) })
	each(list(lw(1, 1), addi(2, 1), lui(3), beq(1, 2)), 6, func(l []api.Instr) { agree(t, "of four kinds", l) })
}

// each hands on all lists of up to so many of these.
func each[T any](all []T, most int, tell func(l []T)) {
	var grow func(l []T)
	grow = func(l []T) {
		tell(l)
		if len(l) == most {
			return
		}
		for _, v := range all {
			grow(append(slices.Clip(l), v))
		}
	}
	grow(nil)
}

// numbers tells numbers in no order that shows, the same in each run.
type numbers struct{ state uint64 }

func (n *numbers) below(end int) int {
	n.state += 0x9e3779b97f4a7c15
	z := n.state
	z = (z ^ z>>30) * 0xbf58476d1ce4e5b9
	z = (z ^ z>>27) * 0x94d049bb133111eb
	return int(z>>33) % end
}

// some has so many instructions, of registers below an end.
func (n *numbers) some(many int, end int) []api.Instr {
	l := make([]api.Instr, many)
	for at := range l {
		a, b, c := n.below(end), n.below(end), n.below(end)
		l[at] = list(nop, lw(a, b), lw(b, c), sw(a, b), sys(n.below(3)), lui(a), addi(a, b), beq(a, b), jr(a), jal(), wrong, check(a),
			three(api.Add+n.below(9), a, b, c), add(a, b, c), addi(b, c))[n.below(15)]
	}
	return l
}

// P11.1, P11.2: longer lists, of registers that are often alike, and seldom; as
// they are, and with each that goes at the end.
func TestLongerLists(t *testing.T) {
	n := numbers{1}
	for many := 4; many < 80; many++ {
		for _, end := range []int{2, 4, 8, 32} {
			name := strconv.Itoa(many) + " of " + strconv.Itoa(end)
			agree(t, name, n.some(many, end))
			for _, goes := range append(goers(), beq(1, 0), bne(0, end-1), jr(n.below(end))) {
				agree(t, name+", going", append(n.some(n.below(many), end), goes))
			}
		}
	}
	agree(t, "long", n.some(500, 32))
	agree(t, "long, going", append(n.some(500, 16), beq(1, 2)))
}

// P11.1: registers are told apart: a chain by each one, beside a chain by each
// other one.
func TestEachRegister(t *testing.T) {
	for a := range 32 {
		for b := range 32 {
			agree(t, "two registers", list(lw(a, 0), lui(b), addi(0, a), addi(b, b), beq(a, b)))
			agree(t, "two registers, both read", list(lui(a), lw(b, 0), add(0, a, b), lui(a), add(0, b, a), jr(b)))
		}
	}
}

// P11.2: an order of most code keeps, as does what is laid.
func TestMostCode(t *testing.T) {
	n := numbers{7}
	for _, end := range []int{3, 32} {
		l := append(n.some(api.MaxCode-1, end), jmp())
		far := fars(l)
		follows(t, "most code", l, far, Order(l))
		followsLaid(t, "most code", l, far, Lay(l))
	}
}

// P1, P11.1: very long lists, in chains, and of which none must stay ahead of
// another one, or all must, of one or of some.
func TestVeryLong(t *testing.T) {
	const many = 300000
	for _, c := range []struct {
		name string
		each func(at int) api.Instr
		want func(place int) int
		long int
	}{
		{"none must", func(at int) api.Instr { return addi(1+at%15, 16+at%15) }, func(p int) int { return p }, many},
		{"all wait for one", func(at int) api.Instr { return add(max(0, 1-at), 1, 1) }, func(p int) int { return p }, many},
		{"all are wrong", func(at int) api.Instr { return add(at%32, 1, 32) }, func(p int) int { return p }, many},
		{"one chain", func(at int) api.Instr { return addi(1, 1) }, func(p int) int { return p }, many},
		{"all act", func(at int) api.Instr { return sw(1, 2) }, func(p int) int { return p }, many},
		{"a chain of late ones", func(at int) api.Instr { return lw(1, 1) }, func(p int) int { return p/2 - p%2*(p/2+1) }, 2*many - 1},
	} {
		l := make([]api.Instr, many)
		for at := range l {
			l[at] = c.each(at)
		}
		got := Order(l)
		if len(got) != c.long {
			t.Fatalf("%s: %d places", c.name, len(got))
		}
		for p, at := range got {
			if at != c.want(p) {
				t.Fatalf("%s: %d at the place %d, want %d", c.name, at, p, c.want(p))
			}
		}
	}
}

// P11.1: a very long list whose chain stands behind all others: it comes first,
// each of the others between two of it; of the chain's end and the last one of
// the others, of the same height, the latter comes first.
func TestVeryLongLaid(t *testing.T) {
	const many = 100000
	l := append(slices.Repeat(list(nop), many), slices.Repeat(list(lw(1, 1)), many)...)
	got := Lay(append(l, beq(1, 0)))
	if len(got) != 2*many+3 || !slices.Equal(got[2*many-2:], order(many-1, 2*many-1, -1, 2*many, -1)) {
		t.Fatalf("%d places, %v at the end", len(got), got[max(0, len(got)-5):])
	}
	for p, at := range got[:2*many-2] {
		if at != p/2+(1-p%2)*many {
			t.Fatalf("%d at the place %d", at, p)
		}
	}
}

// P11.1: what is not right has no height, awaits none, is awaited by none, and
// comes between others as a Nop does.
func TestWrong(t *testing.T) {
	for _, i := range wrongs() {
		holds(t, []made{
			{"between", list(lw(1, 9), i, add(2, 1, 1)), order(0, 1, 2)},
			{"behind", list(lw(1, 9), add(2, 1, 1), i), order(0, 2, 1)},
			{"ahead", list(i, lw(1, 9), add(2, 1, 1)), order(1, 0, 2)},
			{"it fills", list(lw(1, 9), i, jmp()), order(0, 2, 1)},
			{"it is the last one", list(lui(31), i), order(0, 1)},
			{"alone", list(i), order(0)},
			{"twice", list(i, i), order(0, 1)},
		}, Lay, refLay)
		agree(t, "among many", slices.Insert(list(lw(1, 2), addi(3, 1), lw(3, 4), sw(3, 5), beq(3, 4)), 2, i, i))
	}
}

// P11.1: what is picked: by orders, and by what is none.
func TestPick(t *testing.T) {
	a, b, c := addi(1, 2), lw(3, 4), wrong
	l := list(a, b, c)
	for _, p := range []struct {
		name  string
		l     []api.Instr
		order []int
		want  []api.Instr
	}{
		{"nil, nil", nil, nil, nil},
		{"none, none", list(), order(), nil},
		{"nothing of some", l, nil, nil},
		{"nothing of some, none", l, order(), nil},
		{"as it is", l, order(0, 1, 2), l},
		{"turned", l, order(2, 1, 0), list(c, b, a)},
		{"one", l, order(1), list(b)},
		{"-1", l, order(-1), list(nop)},
		{"-1 among others", l, order(-1, 0, -1, -1, 2, -1), list(nop, a, nop, nop, c, nop)},
		{"below -1", l, order(-2, 0, math.MinInt, -3), list(nop, a, nop, nop)},
		{"beyond", l, order(3, 2, 4, math.MaxInt), list(nop, c, nop, nop)},
		{"beyond 32 bits", l, order(1<<32, 1<<32+1, -1<<32, -1<<32+2, 1<<63-1), list(nop, nop, nop, nop, nop)},
		{"twice", l, order(0, 0, 1, 0), list(a, a, b, a)},
		{"longer than the list", l, order(0, 1, 2, 0, 1, 2, -1, 3), list(a, b, c, a, b, c, nop, nop)},
		{"of none", nil, order(0, -1, 1, -2), list(nop, nop, nop, nop)},
		{"of none, not nil", list(), order(0), list(nop)},
	} {
		given, givenOrder := slices.Clone(p.l), slices.Clone(p.order)
		if got := Pick(p.l, p.order); !slices.Equal(got, p.want) {
			t.Errorf("%s: %+v, want %+v", p.name, got, p.want)
		}
		if !slices.Equal(p.l, given) || !slices.Equal(p.order, givenOrder) {
			t.Errorf("%s: the list or its order was turned", p.name)
		}
	}
}

// P11.1: all that there is may be picked, as it is, and by what was laid.
func TestPickOfAll(t *testing.T) {
	all := append(rights(), wrongs()...)
	for at, i := range all {
		if got := Pick(all, order(at)); !slices.Equal(got, list(i)) {
			t.Errorf("%d: %+v, want %+v", at, got, i)
		}
	}
	l := list(lw(1, 0), add(2, 1, 1), jmp())
	if got := Pick(l, Lay(l)); !slices.Equal(got, list(l[0], nop, l[2], l[1])) {
		t.Errorf("what was laid: %+v", got)
	}
}

// P11.2: by hand, and by layer 10: late ones spread as far as they may, with no
// -1 at the end of an order; an order of anything keeps.
func TestMostPlaces(t *testing.T) {
	for many := 1; many < 40; many++ {
		l := slices.Repeat(list(lw(1, 1)), many)
		if got := Order(l); len(got) != 2*many-1 || !depend.Keeps(l, got) {
			t.Errorf("%d late ones: order %v", many, got)
		}
		if got := Lay(l); len(got) != 2*many || !depend.Keeps(l, got) {
			t.Errorf("%d late ones: laid %v", many, got)
		}
		l = append(l, beq(1, 1))
		if got := Lay(l); len(got) != 2*many+2 || !depend.Keeps(l, got) {
			t.Errorf("%d late ones and one that goes: laid %v", many, got)
		}
	}
}

// R1, R4, R5: what is answered is new memory, the same each time; a list that
// is nil and one that is empty are the same.
func TestNewMemory(t *testing.T) {
	l := list(lw(1, 0), add(2, 1, 1), addi(3, 4), beq(1, 2))
	given := slices.Clone(l)
	for _, tell := range []func(l []api.Instr) []int{Order, Lay} {
		first := tell(l)
		want := slices.Clone(first)
		clear(first[:cap(first)])
		if second := tell(l); !slices.Equal(second, want) {
			t.Errorf("%v, and then %v", want, second)
		}
		if len(tell(nil)) != 0 || len(tell(list())) != 0 {
			t.Errorf("there is an order of nothing: %v, %v", tell(nil), tell(list()))
		}
	}
	picked := Pick(l, order(0, 1, 2, 3))
	clear(picked)
	if !slices.Equal(l, given) {
		t.Errorf("what was picked is the list's own: %+v", l)
	}
}

// R1: what stands behind a list in its memory is not written to.
func TestMemoryBehind(t *testing.T) {
	room := list(lw(1, 0), addi(3, 4), jmp(), sw(5, 6), sys(0))
	given := slices.Clone(room)
	places := order(0, 1, 2, 7, 7)
	Order(room[:2])
	Lay(room[:2])
	Lay(room[:3])
	Pick(room[:2], places[:3])
	if !slices.Equal(room, given) || !slices.Equal(places, order(0, 1, 2, 7, 7)) {
		t.Errorf("%+v, %v", room, places)
	}
}
