package depend

import (
	"math"
	"slices"
	"strconv"
	"testing"

	"delayslot/api"
)

// Short forms, so that lists in tests read as lists of instructions.

var nop, wrong = api.Instr{}, api.Instr{Op: 22}

func three(op int, a int, b int, c int) api.Instr { return api.Instr{Op: op, A: a, B: b, C: c} }
func two(op int, a int, b int) api.Instr          { return api.Instr{Op: op, A: a, B: b} }
func add(a int, b int, c int) api.Instr           { return three(api.Add, a, b, c) }
func div(a int, b int, c int) api.Instr           { return three(api.Div, a, b, c) }
func addi(a int, b int) api.Instr                 { return two(api.AddI, a, b) }
func lui(a int) api.Instr                         { return api.Instr{Op: api.Lui, A: a} }
func lw(a int, b int) api.Instr                   { return two(api.Lw, a, b) }
func sw(a int, b int) api.Instr                   { return two(api.Sw, a, b) }
func check(a int) api.Instr                       { return two(api.Check, a, 9) }
func beq(a int, b int) api.Instr                  { return two(api.Beq, a, b) }
func jr(a int) api.Instr                          { return api.Instr{Op: api.Jr, A: a} }
func jal() api.Instr                              { return api.Instr{Op: api.Jal, Imm: 4} }
func jmp() api.Instr                              { return api.Instr{Op: api.Jmp, Imm: 4} }
func sys(call int) api.Instr                      { return api.Instr{Op: api.Sys, Imm: call} }
func list(i ...api.Instr) []api.Instr             { return i }
func order(n ...int) []int                        { return n }

// asItIs is the order of so many places as they are.
func asItIs(many int) []int {
	l := make([]int, many)
	for at := range l {
		l[at] = at
	}
	return l
}

// wrongs has instructions that are not right, most of which look as if they
// read or write register 1 to 5, act, or are late.
func wrongs() []api.Instr {
	return list(wrong, api.Instr{Op: -1}, api.Instr{Op: 21, A: 1, B: 2, C: 3}, api.Instr{Op: math.MaxInt, A: 1}, api.Instr{Op: math.MinInt, A: 1},
		add(1, 2, 32), add(1, -1, 2), add(32, 1, 2), add(-1, 1, 2), api.Instr{Op: api.Add, A: 1, B: 2, C: 3, Imm: 1},
		div(1, 2, 32), div(1, 2, -1), div(math.MaxInt, 1, 2), div(1, math.MinInt, 2), three(api.AddI, 1, 2, 3),
		api.Instr{Op: api.AddI, A: 1, B: 2, Imm: 32768}, api.Instr{Op: api.Lw, A: 1, B: 2, Imm: -32769},
		api.Instr{Op: api.Lw, A: 1, B: 2, Imm: 32768}, lw(32, 1), lw(1, 32), lw(-1, 1), three(api.Lw, 1, 2, 3),
		sw(1, 32), sw(32, 1), api.Instr{Op: api.Sw, A: 1, B: 2, Imm: 40000}, api.Instr{Op: api.Check, A: 1, Imm: -1}, two(api.Check, 1, 32),
		lui(32), two(api.Lui, 1, 2), sys(3), sys(-1), two(api.Sys, 1, 0), api.Instr{Op: api.Sys, A: 4, Imm: 1},
		api.Instr{Op: api.Sys, B: 4, Imm: 2}, api.Instr{Op: api.Sys, Imm: 1 << 32}, jr(32), jr(-1), two(api.Jr, 31, 1),
		api.Instr{Op: api.Jal, Imm: 4097}, api.Instr{Op: api.Jal, Imm: -1}, api.Instr{Op: api.Jal, A: 31},
		beq(32, 1), three(api.Beq, 1, 2, 3), api.Instr{Op: api.Nop, A: 1}, api.Instr{Op: api.Nop, Imm: 1})
}

// rights has right instructions of each operation, with registers that are
// alike, that differ, that are 0, and at the ends.
func rights() []api.Instr {
	l := list(nop, jmp(), jal(), sys(0), sys(1), sys(2))
	for _, a := range []int{0, 1, 2, 4, 31} {
		l = append(l, lui(a), jr(a), check(a))
		for _, b := range []int{0, 1, 3, 4, 31} {
			l = append(l, addi(a, b), lw(a, b), sw(a, b), beq(a, b), two(api.Bne, a, b), two(api.Check, a, b))
		}
	}
	for op := api.Add; op <= api.Seq; op++ {
		for _, r := range [][3]int{{0, 0, 0}, {1, 1, 1}, {1, 2, 3}, {2, 1, 3}, {3, 2, 1}, {0, 1, 2}, {1, 0, 0}, {4, 5, 4}, {5, 4, 31}, {31, 30, 4}} {
			l = append(l, three(op, r[0], r[1], r[2]))
		}
	}
	return l
}

// P10.1: the chapter's examples.
func TestExamples(t *testing.T) {
	sum := add(2, 1, 0)
	if far := Far(lw(1, 0), sum); far != 2 {
		t.Errorf("lw r1 and add r2,r1,r0: %d", far)
	}
	if far := Far(addi(1, 0), sum); far != 1 {
		t.Errorf("addi r1 and add r2,r1,r0: %d", far)
	}
	if far := Far(nop, sum); far != 0 {
		t.Errorf("nop and add r2,r1,r0: %d", far)
	}
}

// P10.1: each of the chapter's reasons alone, with and without another one
// beside it.
func TestFar(t *testing.T) {
	for _, c := range []struct {
		name string
		a, b api.Instr
		want int
	}{
		{"late, read behind it", lw(1, 9), add(2, 1, 3), 2},
		{"late, read behind it as the other one", lw(1, 9), add(2, 3, 1), 2},
		{"late, read behind it twice", lw(1, 9), add(2, 1, 1), 2},
		{"late, read behind it and written", lw(1, 9), add(1, 1, 3), 2},
		{"late, read by one that acts", lw(1, 9), sw(1, 29), 2},
		{"late, an address of the next", lw(1, 9), lw(2, 1), 2},
		{"late, read and written by a late one", lw(1, 1), lw(1, 1), 2},
		{"late, read by one that goes", lw(1, 9), beq(2, 1), 2},
		{"late, a link", lw(31, 9), jr(31), 2},
		{"late, checked", lw(1, 9), check(1), 2},
		{"late, divided by", lw(1, 9), div(2, 3, 1), 2},
		{"late, written behind it", lw(1, 9), addi(1, 2), 1},
		{"late, written behind it by one that acts", lw(1, 9), lw(1, 2), 1},
		{"late, written behind it by one that goes", lw(31, 9), jal(), 1},
		{"late, neither", lw(1, 9), addi(2, 3), 0},
		{"late, neither, both act", lw(1, 9), lw(2, 3), 1},
		{"late, its address read", lw(1, 9), add(2, 9, 9), 0},
		{"late, its address written", lw(1, 9), addi(9, 2), 1},
		{"late, its address written and it read", lw(1, 9), addi(9, 1), 2},
		{"late, a number as great", lw(1, 9), two(api.Check, 2, 1), 1},
		{"not late, read behind it", addi(1, 9), add(2, 1, 3), 1},
		{"not late, but acts, read behind it", div(1, 8, 9), add(2, 1, 3), 1},
		{"not late, acts, read by one that acts", div(1, 8, 9), div(2, 1, 3), 1},
		{"read by a late one", addi(1, 9), lw(2, 1), 1},
		{"written behind it", add(1, 8, 9), lui(1), 1},
		{"written by a late one", add(1, 8, 9), lw(1, 2), 1},
		{"written what is read", add(1, 8, 9), addi(9, 2), 1},
		{"written what is read first", add(1, 8, 9), addi(8, 2), 1},
		{"written late what is read", add(1, 8, 9), lw(8, 2), 1},
		{"read by both", add(1, 8, 9), add(2, 8, 9), 0},
		{"nothing alike", add(1, 8, 9), add(2, 3, 4), 0},
		{"itself", add(1, 2, 3), add(1, 2, 3), 1},
		{"itself, writing none", beq(2, 3), beq(2, 3), 0},
		{"both act", div(1, 8, 9), three(api.Mod, 2, 6, 7), 1},
		{"both store", sw(1, 2), sw(3, 4), 1},
		{"a check and a store", check(1), sw(3, 4), 1},
		{"a store and a check", sw(3, 4), check(1), 1},
		{"one acts", div(1, 8, 9), add(2, 6, 7), 0},
		{"the other one acts", add(2, 6, 7), div(1, 8, 9), 0},
		{"two that go", beq(1, 2), jmp(), 0},
		{"one goes, one acts", jmp(), sys(0), 0},
		{"one acts, one goes", sw(1, 2), jmp(), 0},
		{"goes by what is written", add(1, 2, 3), beq(9, 1), 1},
		{"goes, and its register is written", beq(9, 1), addi(1, 2), 1},
		{"a link that is gone back by", jal(), jr(31), 1},
		{"a link written twice", jal(), jal(), 1},
		{"a link that is read", jr(31), jal(), 1},
		{"another register gone back by", jal(), jr(30), 0},
		{"nop first", nop, sys(0), 0},
		{"nop last", lw(1, 9), nop, 0},
	} {
		if got := Far(c.a, c.b); got != c.want {
			t.Errorf("%s: %d, want %d", c.name, got, c.want)
		}
		if got := refFar(c.a, c.b); got != c.want {
			t.Errorf("%s: the reference %d, want %d", c.name, got, c.want)
		}
	}
}

// P10.1: a register 0 is none that is read or written, of a late one too.
func TestFarZero(t *testing.T) {
	for _, c := range []struct {
		name string
		a, b api.Instr
		want int
	}{
		{"late", lw(0, 9), add(2, 0, 0), 0},
		{"late, the address read", lw(0, 9), add(2, 9, 0), 0},
		{"late, the address written", lw(0, 9), addi(9, 0), 1},
		{"late, both act", lw(0, 0), sw(0, 0), 1},
		{"late twice", lw(0, 9), lw(0, 8), 1},
		{"late, written again", lw(0, 9), addi(0, 8), 0},
		{"read", add(0, 1, 2), add(3, 0, 0), 0},
		{"written", add(0, 1, 2), addi(0, 3), 0},
		{"written by a late one", add(0, 1, 2), lw(0, 3), 0},
		{"written what is read", add(1, 0, 0), addi(0, 3), 0},
		{"written late what is read", addi(1, 0), lw(0, 3), 0},
		{"gone by", addi(0, 3), beq(0, 0), 0},
		{"gone back by", lui(0), jr(0), 0},
		{"gone back by, late", lw(0, 3), jr(0), 0},
		{"all of it", add(0, 0, 0), add(0, 0, 0), 0},
		{"a store of it", addi(0, 3), sw(0, 0), 0},
	} {
		if got := Far(c.a, c.b); got != c.want {
			t.Errorf("%s: %d, want %d", c.name, got, c.want)
		}
	}
}

// P10.1: a Sys has register 4, by its number; all three act.
func TestFarSys(t *testing.T) {
	for _, c := range []struct {
		name string
		a, b api.Instr
		want int
	}{
		{"reads a number, tells it", sys(1), sys(2), 2},
		{"reads a number, added", sys(1), add(5, 4, 6), 2},
		{"reads a number, stored", sys(1), sw(4, 29), 2},
		{"reads a number, gone by", sys(1), beq(4, 0), 2},
		{"reads a number, written again", sys(1), addi(4, 5), 1},
		{"reads a number, written late", sys(1), lw(4, 5), 1},
		{"reads two", sys(1), sys(1), 1},
		{"reads a number, halts", sys(1), sys(0), 1},
		{"reads a number, another register", sys(1), add(5, 6, 7), 0},
		{"reads a number, that of its own number", sys(1), add(5, 1, 1), 0},
		{"reads a number, a late one", sys(1), lw(5, 6), 1},
		{"tells what is late", lw(4, 9), sys(2), 2},
		{"tells what was put", addi(4, 9), sys(2), 1},
		{"told, and written", sys(2), addi(4, 9), 1},
		{"told, and read", sys(2), add(5, 4, 4), 0},
		{"told, and read by one that acts", sys(2), sw(4, 9), 1},
		{"told twice", sys(2), sys(2), 1},
		{"told, reads a number", sys(2), sys(1), 1},
		{"told, that of its own number", sys(2), addi(2, 9), 0},
		{"halts, and written", sys(0), addi(4, 9), 0},
		{"put, and halts", addi(4, 9), sys(0), 0},
		{"halts, and tells", sys(0), sys(2), 1},
		{"late, and halts", lw(4, 9), sys(0), 1},
	} {
		if got := Far(c.a, c.b); got != c.want {
			t.Errorf("%s: %d, want %d", c.name, got, c.want)
		}
	}
}

// P10.1: each operation ahead of each other one, with the same registers and
// with others, against the reference; and heights of both side by side.
func TestFarOfAll(t *testing.T) {
	all := rights()
	times := make([]int, 3)
	for _, a := range all {
		for _, b := range all {
			got, want := Far(a, b), refFar(a, b)
			if got != want {
				t.Errorf("%+v ahead of %+v: %d, want %d", a, b, got, want)
			}
			times[want]++
			if h := Heights(list(a, b)); !slices.Equal(h, []int{want, 0}) {
				t.Errorf("%+v ahead of %+v: heights %v, want %d and 0", a, b, h, want)
			}
		}
	}
	if slices.Min(times) < 500 {
		t.Errorf("of 0, 1 and 2 there were %v: of one there are too few", times)
	}
}

// P10.1: each operation, at each register, ahead of one that reads it, one that
// writes it, and behind these.
func TestFarOfAllRegisters(t *testing.T) {
	for reg := range 32 {
		for op := range api.Sys + 1 {
			for _, i := range list(three(op, reg, 0, 0), three(op, 0, reg, 0), three(op, 0, 0, reg), three(op, reg, reg, 0), three(op, reg, reg, reg)) {
				for _, other := range list(lui(reg), lw(reg, 0), jr(reg), addi(reg, reg), check(reg), add(0, 0, reg), lui((reg+1)%32), jr((reg+1)%32)) {
					if got, want := Far(i, other), refFar(i, other); got != want {
						t.Errorf("%+v ahead of %+v: %d, want %d", i, other, got, want)
					}
					if got, want := Far(other, i), refFar(other, i); got != want {
						t.Errorf("%+v ahead of %+v: %d, want %d", other, i, got, want)
					}
				}
			}
		}
	}
}

// P10.1: wrong instructions need not stay ahead of anything, nor anything of
// them; among right ones they have the height 0, and make no other one higher.
func TestFarWrong(t *testing.T) {
	around := append(rights(), wrongs()...)
	for _, i := range wrongs() {
		for _, other := range around {
			if a, b := Far(i, other), Far(other, i); a != 0 || b != 0 {
				t.Errorf("%+v and %+v: %d, and the other way %d", i, other, a, b)
			}
		}
		for at, want := range [][]int{{0, 5, 3, 2, 0}, {5, 0, 3, 2, 0}, {5, 3, 0, 2, 0}, {5, 3, 2, 0, 0}, {5, 3, 2, 0, 0}} {
			l := slices.Insert(list(lw(1, 2), addi(3, 1), lw(3, 4), sw(3, 5)), at, i)
			if got := Heights(l); !slices.Equal(got, want) {
				t.Errorf("%+v at %d: heights %v, want %v", i, at, got, want)
			}
		}
	}
}

// P10.1: heights by hand: none, along one chain, and where chains meet.
func TestHeights(t *testing.T) {
	for _, c := range []struct {
		name string
		l    []api.Instr
		want []int
	}{
		{"nil", nil, nil},
		{"none", list(), nil},
		{"one", list(lw(1, 2)), []int{0}},
		{"one, not right", list(wrong), []int{0}},
		{"nothing alike", list(add(1, 8, 9), addi(2, 8), lui(3), beq(8, 9)), []int{0, 0, 0, 0}},
		{"a chain of reads", list(addi(1, 0), addi(2, 1), addi(3, 2), addi(4, 3)), []int{3, 2, 1, 0}},
		{"a chain of late ones", list(lw(1, 0), lw(2, 1), lw(3, 2), add(4, 3, 0)), []int{6, 4, 2, 0}},
		{"a chain of writes", list(lui(1), lui(1), lui(1)), []int{2, 1, 0}},
		{"a chain of one that writes what is read", list(add(1, 2, 0), add(2, 3, 0), add(3, 4, 0)), []int{2, 1, 0}},
		{"a chain of acts", list(sw(1, 2), check(3), div(4, 5, 6), sys(0)), []int{3, 2, 1, 0}},
		{"a chain, others between", list(addi(1, 0), nop, addi(2, 1), jmp(), lui(9), addi(3, 2)), []int{2, 0, 1, 0, 0, 0}},
		{"a chain whose end is first", list(addi(3, 2), addi(2, 1), addi(1, 0)), []int{2, 1, 0}},
		{"two chains", list(addi(1, 0), addi(2, 0), addi(3, 1), lw(4, 2), addi(5, 4)), []int{1, 3, 0, 2, 0}},
		{"two chains meet at the end", list(lw(1, 9), addi(2, 9), addi(3, 2), add(4, 1, 3)), []int{2, 2, 1, 0}},
		{"two chains meet, one is longer", list(lw(1, 9), addi(2, 9), addi(3, 2), addi(3, 3), add(4, 1, 3)), []int{2, 3, 2, 1, 0}},
		{"one chain parts", list(lui(1), lw(2, 1), addi(3, 1), addi(4, 2), addi(5, 3)), []int{3, 2, 1, 0, 0}},
		{"it parts and meets", list(lui(1), addi(2, 1), lw(3, 1), add(4, 2, 3), sw(4, 9)), []int{4, 2, 3, 1, 0}},
		{"read late, and written again", list(lw(1, 9), addi(2, 1), addi(1, 5), addi(6, 1), addi(7, 6)), []int{5, 3, 2, 1, 0}},
		{"two apart, and one of a greater height", list(lw(1, 9), add(2, 1, 0), sw(5, 6), lw(3, 6), add(4, 3, 0)), []int{4, 0, 3, 2, 0}},
		{"reads of before a write do not count", list(lui(1), lui(2), addi(3, 1), lui(1), addi(4, 1)), []int{3, 0, 2, 1, 0}},
		{"late of register 0", list(lw(0, 9), add(2, 0, 0), lw(0, 8)), []int{1, 0, 0}},
		{"numbers read and told", list(sys(1), sys(2), sys(1), sys(2), sys(0)), []int{6, 4, 3, 1, 0}},
		{"what goes", list(addi(1, 0), beq(1, 0)), []int{1, 0}},
		{"a call", list(lw(5, 29), jal(), addi(5, 5), jr(31)), []int{2, 1, 0, 0}},
		{"wrong ones between", list(lw(1, 0), wrong, add(2, 1, 1), add(1, 2, 32), sw(2, 0)), []int{3, 0, 1, 0, 0}},
	} {
		if got := Heights(c.l); !slices.Equal(got, c.want) {
			t.Errorf("%s: %v, want %v", c.name, got, c.want)
		}
		agree(t, c.name, c.l)
	}
}

// few has one instruction of each kind that meets others in its own way.
func few() []api.Instr {
	return list(nop, lw(1, 2), lw(0, 1), addi(2, 1), addi(1, 0), sw(1, 2), sys(1), beq(4, 1), add(32, 1, 1))
}

// P10.1: all lists of up to four: the height is the longest of all ways.
func TestHeightsOfShortLists(t *testing.T) {
	each(few(), 4, func(l []api.Instr) {
		got, far := Heights(l), fars(l)
		for at := range l {
			if want := longest(far, at); got[at] != want {
				t.Errorf("%+v: the height of %d is %d, want %d", l, at, got[at], want)
			}
		}
		if len(got) != len(l) {
			t.Errorf("%+v: %d heights", l, len(got))
		}
	})
}

// each hands on all lists of up to so many of these.
func each[T any](all []T, most int, tell func(l []T)) {
	var grow func(l []T)
	grow = func(l []T) {
		tell(l)
		if len(l) == most {
			return
		}
		for _, v := range all {
			grow(append(slices.Clip(l), v))
		}
	}
	grow(nil)
}

// numbers tells numbers in no order that shows, the same in each run.
type numbers struct{ state uint64 }

func (n *numbers) below(end int) int {
	n.state += 0x9e3779b97f4a7c15
	z := n.state
	z = (z ^ z>>30) * 0xbf58476d1ce4e5b9
	z = (z ^ z>>27) * 0x94d049bb133111eb
	return int(z>>33) % end
}

// some has so many instructions, of registers below an end.
func (n *numbers) some(many int, end int) []api.Instr {
	l := make([]api.Instr, many)
	for at := range l {
		a, b, c := n.below(end), n.below(end), n.below(end)
		l[at] = list(nop, lw(a, b), sw(a, b), sys(n.below(3)), lui(a), addi(a, b), beq(a, b), jr(a), jal(), wrong, check(a),
			three(api.Add+n.below(9), a, b, c), add(a, b, c), addi(b, c))[n.below(14)]
	}
	return l
}

// P10.1: long lists, of registers that are often alike, and seldom.
func TestHeightsOfLongLists(t *testing.T) {
	n := numbers{1}
	for many := 5; many < 90; many++ {
		for _, end := range []int{2, 4, 8, 32} {
			agree(t, strconv.Itoa(many)+" of "+strconv.Itoa(end), n.some(many, end))
		}
	}
	agree(t, "long", n.some(1500, 32))
	agree(t, "most code", n.some(4096, 32))
}

// P1, P10.1, P10.2: a list and an order that are very long are told of, too.
func TestVeryLong(t *testing.T) {
	const many = 300000
	l := make([]api.Instr, many)
	for at := range l {
		l[at] = lw(1, 1)
	}
	for at, h := range Heights(l) {
		if h != 2*(many-1-at) {
			t.Fatalf("the height of %d: %d", at, h)
		}
	}
	if Keeps(l, asItIs(many)) {
		t.Errorf("late ones side by side keep")
	}
	spread := slices.Repeat(order(-1), 2*many)
	for at := range l {
		spread[2*at] = at
	}
	if !Keeps(l, spread) {
		t.Errorf("late ones spread do not keep")
	}
	for at := range l {
		l[at] = addi(1, 1)
	}
	if !Keeps(l, asItIs(many)) {
		t.Errorf("others side by side do not keep")
	}
	turned := asItIs(many)
	turned[many-1], turned[many-2] = many-2, many-1
	if Keeps(l, turned) {
		t.Errorf("two that are turned keep")
	}
}

// P10.2: orders by hand: of which some keep, and some do not.
func TestKeeps(t *testing.T) {
	late := list(lw(1, 9), add(2, 1, 1))
	between := list(lw(1, 9), add(2, 1, 1), addi(3, 4))
	meet := list(lw(1, 9), addi(2, 9), add(3, 1, 2), sw(3, 9))
	for _, c := range []struct {
		name  string
		l     []api.Instr
		order []int
		want  bool
	}{
		{"nil, nil", nil, nil, true},
		{"none, of none", list(), order(), true},
		{"none, of -1", nil, order(-1), true},
		{"none, of more -1", list(), order(-1, -1, -1), true},
		{"none, of a place", nil, order(0), false},
		{"none, of -2", nil, order(-2), false},
		{"none, of -1 and a place", nil, order(-1, 0), false},
		{"one", list(lw(1, 1)), order(0), true},
		{"one, -1 ahead", list(lw(1, 1)), order(-1, 0), true},
		{"one, -1 behind", list(lw(1, 1)), order(0, -1), true},
		{"one, not right", list(wrong), order(0), true},
		{"one, no order", list(nop), nil, false},
		{"one, of -1", list(nop), order(-1), false},
		{"one, of more -1", list(nop), order(-1, -1), false},
		{"one, twice", list(nop), order(0, 0), false},
		{"one, beyond", list(nop), order(1), false},
		{"late, side by side", late, order(0, 1), false},
		{"late, -1 between", late, order(0, -1, 1), true},
		{"late, -1 twice between", late, order(0, -1, -1, 1), true},
		{"late, -1 ahead only", late, order(-1, 0, 1), false},
		{"late, -1 behind only", late, order(0, 1, -1), false},
		{"late, -1 all about", late, order(-1, 0, -1, 1, -1), true},
		{"late, turned", late, order(1, 0), false},
		{"late, turned and apart", late, order(1, -1, 0), false},
		{"late, another one between", between, order(0, 2, 1), true},
		{"late, another one ahead", between, order(2, 0, 1), false},
		{"late, another one behind", between, order(0, 1, 2), false},
		{"late, -1 between, another one behind", between, order(0, -1, 1, 2), true},
		{"late, both between", between, order(0, -1, 2, 1), true},
		{"late, written behind", list(lw(1, 9), lui(1)), order(0, 1), true},
		{"late, written behind, turned", list(lw(1, 9), lui(1)), order(1, 0), false},
		{"late, neither", list(lw(1, 9), addi(2, 3)), order(1, 0), true},
		{"late, of register 0", list(lw(0, 9), addi(2, 0)), order(0, 1), true},
		{"late, of register 0, turned", list(lw(0, 9), addi(2, 0)), order(1, 0), true},
		{"read, side by side", list(addi(1, 0), addi(2, 1)), order(0, 1), true},
		{"read, apart", list(addi(1, 0), addi(2, 1)), order(0, -1, 1), true},
		{"read, turned", list(addi(1, 0), addi(2, 1)), order(1, 0), false},
		{"written what is read, turned", list(add(1, 2, 3), lui(3)), order(1, 0), false},
		{"both act, turned", list(sw(1, 2), sw(3, 4)), order(1, 0), false},
		{"one acts, turned", list(sw(1, 2), lui(3)), order(1, 0), true},
		{"nothing alike, turned about", list(lui(1), lui(2), lui(3)), order(2, -1, 0, 1), true},
		{"wrong ones, turned", list(wrong, div(1, 2, 32), sys(3)), order(2, 1, 0), true},
		{"wrong ones among right ones, turned", list(lw(1, 9), add(2, 1, 32), sys(2)), order(1, 0, 2), true},
		{"wrong ones between", list(lw(4, 9), add(2, 1, 32), sys(2)), order(0, 1, 2), true},
		{"a number read and told", list(sys(1), sys(2)), order(0, 1), false},
		{"a number read and told, apart", list(sys(1), sys(2)), order(0, -1, 1), true},
		{"meet, as it is", meet, order(0, 1, 2, 3), true},
		{"meet, both first ones turned", meet, order(1, 0, 2, 3), false},
		{"meet, turned and apart", meet, order(1, 0, -1, 2, 3), true},
		{"meet, the last ones turned", meet, order(0, 1, 3, 2), false},
		{"meet, the last one first", meet, order(3, 0, 1, 2), false},
		{"meet, one of both behind", meet, order(0, -1, 2, 1, 3), false},
	} {
		if got := agreeKeeps(t, c.name, c.l, fars(c.l), c.order); got != c.want {
			t.Errorf("%s: the reference %v, want %v", c.name, got, c.want)
		}
	}
}

// P10.2: orders that are none of the list: a place is missing, stands twice, is
// below -1, or is none of the list; too short, or longer by other things.
func TestKeepsWrongOrders(t *testing.T) {
	l := list(lui(1), nop, lui(2), wrong)
	for _, o := range [][]int{nil, order(), order(0), order(-1), order(-1, -1, -1, -1), order(0, 1, 2), order(1, 2, 3), order(0, 1, 2, -1),
		order(-1, 0, 1, 2), order(0, 1, -1, 3), order(0, 1, 2, 2), order(0, 0, 0, 0), order(0, 1, 2, 3, 3), order(0, 0, 1, 2, 3),
		order(0, 1, 2, 3, -1, 0), order(0, 1, 2, 4), order(4, 1, 2, 3), order(1, 2, 3, 4), order(0, 1, 2, 3, 4), order(-2, 0, 1, 2, 3),
		order(0, 1, 2, 3, -2), order(0, 1, -2, 3), order(0, 1, 2, -3), order(0, 1, 2, math.MaxInt), order(0, 1, 2, math.MinInt),
		order(0, 1, 2, 3, math.MinInt), order(math.MaxInt, 0, 1, 2, 3), order(0, 1, 2, 1<<32+3), order(0, 1, 2, 3, 1<<32-1),
		order(0, 1, 2, 3, -1<<32-1), order(0, 1, 2, 3, 0, 1, 2, 3)} {
		if Keeps(l, o) {
			t.Errorf("%v keeps", o)
		}
	}
	for _, o := range [][]int{order(0, 1, 2, 3), order(3, 2, 1, 0), order(2, 0, 3, 1), order(-1, 2, -1, 0, 3, -1, -1, 1, -1)} {
		if !Keeps(l, o) {
			t.Errorf("%v does not keep", o)
		}
	}
}

// P10.2: a list that is long, with an order that is not; and the other way
// round.
func TestKeepsOtherLengths(t *testing.T) {
	long := make([]api.Instr, 100000)
	for _, o := range [][]int{nil, order(0), order(99999), asItIs(10), asItIs(99999), append(asItIs(99999), -1),
		append(asItIs(99999), 99998), append(asItIs(99999), 100000), asItIs(100001), append(asItIs(100000), 0)} {
		if Keeps(long, o) {
			t.Errorf("an order of %d places of a long list keeps", len(o))
		}
	}
	if !Keeps(long, asItIs(100000)) || !Keeps(long, append(asItIs(100000), -1)) {
		t.Errorf("a long list as it is does not keep")
	}
	short := list(lw(1, 0), addi(2, 1))
	apart := slices.Concat(order(0), slices.Repeat(order(-1), 100000), order(1))
	if !Keeps(short, apart) {
		t.Errorf("two that are far apart do not keep")
	}
	slices.Reverse(apart)
	if Keeps(short, apart) {
		t.Errorf("two that are far apart and turned keep")
	}
	if Keeps(short, asItIs(100000)) || Keeps(short, slices.Repeat(order(0), 100000)) {
		t.Errorf("a long order of a short list keeps")
	}
}

// P10.2: all lists of up to three, with all orders of up to five things, of
// which some are none of the list.
func TestKeepsOfShortLists(t *testing.T) {
	var orders [4][][]int
	for many := range orders {
		things := append(asItIs(many+1), -1)
		each(things, 5, func(o []int) { orders[many] = append(orders[many], o) })
	}
	kept, not := 0, 0
	each(few(), 3, func(l []api.Instr) {
		far := fars(l)
		for _, o := range orders[len(l)] {
			if agreeKeeps(t, "short", l, far, o) {
				kept++
			} else {
				not++
			}
		}
	})
	if kept < 5000 || not < 5000 {
		t.Errorf("%d keep, and %d do not: of one kind there are too few", kept, not)
	}
}

// orders hands on all orders of so many places.
func orders(many int, tell func(order []int)) {
	each(asItIs(many), many, func(l []int) {
		if s := slices.Sorted(slices.Values(l)); len(l) == many && len(slices.Compact(s)) == many {
			tell(l)
		}
	})
}

// P10.2: all orders of lists of four and five, with -1 ahead, between or
// behind.
func TestKeepsOfAllOrders(t *testing.T) {
	n := numbers{3}
	var kept int
	for many := 4; many <= 5; many++ {
		for range 40 {
			l := n.some(many, 5)
			far := fars(l)
			orders(many, func(o []int) {
				for at := range many + 1 {
					if agreeKeeps(t, "with -1", l, far, slices.Insert(slices.Clone(o), at, -1)) {
						kept++
					}
				}
				if agreeKeeps(t, "all", l, far, o) {
					kept++
				}
			})
		}
	}
	if kept < 1000 {
		t.Errorf("only %d keep", kept)
	}
}

// P10.2: long lists: as they are, with -1 behind each one, and turned a little.
func TestKeepsOfLongLists(t *testing.T) {
	n := numbers{4}
	kept, not := 0, 0
	for many := 6; many < 80; many++ {
		for _, end := range []int{4, 32} {
			l := n.some(many, end)
			far := fars(l)
			spread := slices.Repeat(order(-1), 2*many)
			for at := range l {
				spread[2*at] = at
			}
			if !agreeKeeps(t, "spread", l, far, spread) {
				t.Errorf("the reference: what is spread does not keep")
			}
			for range 20 {
				o := slices.Clone(spread)
				a := n.below(2*many - 3)
				b := a + 1 + n.below(3)
				o[a], o[b] = o[b], o[a]
				if agreeKeeps(t, "turned", l, far, o) {
					kept++
				} else {
					not++
				}
			}
		}
	}
	if kept < 200 || not < 200 {
		t.Errorf("%d keep, and %d do not: of one kind there are too few", kept, not)
	}
}

// P10.3: what is late, and what is read behind it, are two apart: side by side
// they do not keep, at any place of an order.
func TestLateIsTwoApart(t *testing.T) {
	for _, a := range rights() {
		for _, b := range rights() {
			l := list(nop, a, b, nop)
			did, does := deedsOf(a), deedsOf(b)
			if want := did.late && meet(did.writes, does.reads); want != (Far(a, b) == 2) || want == Keeps(l, asItIs(4)) {
				t.Errorf("%+v and %+v: far %d, side by side they keep: %v", a, b, Far(a, b), Keeps(l, asItIs(4)))
			}
			if !Keeps(l, order(0, 1, -1, 2, 3)) || !Keeps(l, order(1, 0, 2, 3)) || !Keeps(l, order(1, 3, 2, 0)) {
				t.Errorf("%+v and %+v: two apart they do not keep", a, b)
			}
		}
	}
}

// P10.3: the order as it is keeps, if nothing that is late is read by the next
// one; and does not, if there is such a thing.
func TestAsItIs(t *testing.T) {
	n := numbers{5}
	kept, not := 0, 0
	for range 3000 {
		l := n.some(2+n.below(12), 9)
		want := true
		for at := 1; at < len(l); at++ {
			did := deedsOf(l[at-1])
			want = want && !(did.late && meet(did.writes, deedsOf(l[at]).reads))
		}
		if got := Keeps(l, asItIs(len(l))); got != want {
			t.Errorf("%+v: as it is keeps: %v", l, got)
		}
		if want {
			kept++
		} else {
			not++
		}
	}
	if kept < 100 || not < 100 {
		t.Errorf("%d keep, and %d do not: of one kind there are too few", kept, not)
	}
}

// P10.3: an order in which all stand as far from the end as their heights, and
// no two at one place, keeps: heights are how far each must stay from the end.
func TestHeightsKeep(t *testing.T) {
	n := numbers{6}
	for range 300 {
		l := n.some(2+n.below(20), 9)
		heights := Heights(l)
		o := slices.Repeat(order(-1), (slices.Max(heights)+1)*len(l))
		for at, h := range heights {
			o[len(o)-1-h*len(l)-at] = at
		}
		if !Keeps(l, o) {
			t.Errorf("%+v: %v does not keep", l, o)
		}
	}
}

// R1, R5: what is handed in may be turned behind a call, and what was answered
// too: no later answer tells of it; nil and empty are the same.
func TestNewMemory(t *testing.T) {
	l := list(lw(1, 0), addi(2, 1), sw(2, 0))
	first := Heights(l)
	l[0] = nop
	if !slices.Equal(first, []int{3, 1, 0}) {
		t.Errorf("of a list that was turned: %v", first)
	}
	l[0] = lw(1, 0)
	first[0], first[1], first[2] = 9, 9, 9
	if again := Heights(l); !slices.Equal(again, []int{3, 1, 0}) {
		t.Errorf("again: %v", again)
	}
	o := order(0, -1, 1, 2)
	if !Keeps(l, o) || !slices.Equal(o, order(0, -1, 1, 2)) || !Keeps(l, o) {
		t.Errorf("an order that keeps does not again")
	}
	for _, none := range [][]api.Instr{nil, {}} {
		for _, noOrder := range [][]int{nil, {}} {
			if len(Heights(none)) != 0 || !Keeps(none, noOrder) {
				t.Errorf("of no instruction: %v, %v", Heights(none), Keeps(none, noOrder))
			}
		}
	}
}
