package block

import (
	"math"
	"slices"
	"strconv"
	"testing"

	"delayslot/api"
)

// Short forms, so that code in tests reads as a list of instructions.

var nop, wrong = api.Instr{}, api.Instr{Op: 22}

func three(op int, a int, b int, c int) api.Instr { return api.Instr{Op: op, A: a, B: b, C: c} }
func two(op int, a int, b int, imm int) api.Instr { return api.Instr{Op: op, A: a, B: b, Imm: imm} }
func put(a int, v int) api.Instr                  { return two(api.AddI, a, 0, v) }
func to(op int, place int) api.Instr              { return api.Instr{Op: op, Imm: place} }
func beq(more int) api.Instr                      { return to(api.Beq, more) }
func bne(more int) api.Instr                      { return two(api.Bne, 1, 2, more) }
func jmp(place int) api.Instr                     { return to(api.Jmp, place) }
func jal(place int) api.Instr                     { return to(api.Jal, place) }
func jr(a int) api.Instr                          { return api.Instr{Op: api.Jr, A: a} }
func sys(call int) api.Instr                      { return to(api.Sys, call) }
func list(i ...api.Instr) []api.Instr             { return i }
func nops(n int) []api.Instr                      { return make([]api.Instr, n) }

// with is code in which one instruction stands at a place in another's stead.
func with(code []api.Instr, at int, i api.Instr) []api.Instr {
	l := slices.Clone(code)
	l[at] = i
	return l
}

// rights has right instructions of each operation, at ordinary parts and at the
// ends of each; of those that go, it has some that go into any code, too.
func rights() []api.Instr {
	l := list(nop, jmp(0), jmp(1), jmp(7), jmp(4095), jmp(4096), jal(0), jal(1), jal(7), jal(4095), jal(4096),
		jr(0), jr(1), jr(30), jr(31), sys(0), sys(1), sys(2), to(api.Lui, 5),
		api.Instr{Op: api.Lui, A: 31, Imm: -32768}, api.Instr{Op: api.Lui, A: 30, Imm: 32767})
	for op := api.Add; op <= api.Seq; op++ {
		l = append(l, three(op, 0, 0, 0), three(op, 1, 2, 3), three(op, 31, 2, 3), three(op, 1, 31, 3), three(op, 1, 2, 31),
			three(op, 30, 30, 30), three(op, 31, 31, 31))
	}
	for _, op := range []int{api.AddI, api.Lw, api.Sw, api.Beq, api.Bne, api.Check} {
		for _, imm := range []int{0, 1, 2, 9, 4095, 4096, 32767} {
			l = append(l, two(op, 1, 2, imm), two(op, 31, 2, imm), two(op, 1, 31, imm), two(op, 0, 30, imm), two(op, 31, 31, imm))
			if op != api.Check {
				l = append(l, two(op, 1, 2, -imm), two(op, 31, 2, -imm-1))
			}
		}
	}
	return l
}

// wrongs has instructions that are not right: operations that are none,
// registers that are none, a part that the operation has not, numbers beyond
// the bounds.
func wrongs() []api.Instr {
	l := list(wrong, to(-1, 0), to(21, 1), to(math.MaxInt, 0), to(math.MinInt, 0),
		jmp(-1), jmp(4097), jal(-1), jal(4097), jmp(math.MinInt), jal(math.MaxInt), beq(32768), beq(-32769), bne(32768), bne(-32769),
		jr(-1), jr(32), jr(63), api.Instr{Op: api.Jr, A: 31, Imm: 1}, api.Instr{Op: api.Jr, A: 31, B: 31}, api.Instr{Op: api.Jr, A: 31, C: 1},
		two(api.Beq, 32, 0, 0), two(api.Beq, 0, -1, 0), two(api.Bne, -1, 0, 0), two(api.Bne, 0, 32, 0),
		two(api.Jmp, 1, 0, 0), two(api.Jmp, 0, 1, 0), two(api.Jal, 31, 0, 0), two(api.Jal, 0, 1, 0),
		three(api.Jmp, 0, 0, 1), three(api.Jal, 0, 0, 1), three(api.Beq, 0, 0, 1), three(api.Bne, 0, 0, 1),
		to(api.Nop, 1), three(api.Nop, 1, 0, 0), sys(3), sys(-1), two(api.Check, 0, 0, -1), two(api.Check, 0, 32, 0), put(32, 0), put(-1, 0),
		put(0, 32768), put(0, -32769), two(api.Lui, 0, 1, 0), two(api.Add, 0, 0, 1))
	for op := api.Add; op <= api.Seq; op++ {
		l = append(l, three(op, 32, 0, 0), three(op, 0, 32, 0), three(op, 0, 0, 32), three(op, 31, 0, -1))
	}
	return l
}

// places has places of code, the ends of the greatest, and what is none.
func places() []int {
	return []int{0, 1, 2, 7, 100, 4094, 4095, 4096, 4097, 32767, 40000, 1<<31 - 1, 1 << 31, 1 << 40,
		-1, -2, -7, -4096, -32768, -32769, -1 << 31, -1 << 40}
}

// byHand is code with what must be told of it; heads and ends of blocks that
// are nil stand for none.
type byHand struct {
	name        string
	code        []api.Instr
	fit, strict bool
	heads, ends []int
}

// hold holds all of these against what is told, and against the reference, so
// that this is held against hands, too.
func hold(t *testing.T, all []byHand) {
	t.Helper()
	for _, c := range all {
		if fit, strict := Fit(c.code), Strict(c.code); fit != c.fit || strict != c.strict {
			t.Errorf("%s: fit %v, strict %v", c.name, fit, strict)
		}
		if got := Heads(c.code); !slices.Equal(got, c.heads) {
			t.Errorf("%s: heads %v, want %v", c.name, brief(got), c.heads)
		}
		var want []Block
		for n, from := range c.heads {
			want = append(want, Block{from, c.ends[n]})
		}
		if got := Blocks(c.code); !slices.Equal(got, want) {
			t.Errorf("%s: blocks %v, want %v", c.name, brief(got), want)
		}
		agree(t, c.name, c.code)
	}
}

// P9.2: the chapter's example.
func TestExample(t *testing.T) {
	hold(t, []byHand{{"example", list(put(1, 1), beq(0), nop), true, true, []int{0, 2}, []int{2, 3}}})
}

// P9.1: to which place those go that name one, at places of code, of the
// greatest code, below 0, and far above; and that all others name none.
func TestTarget(t *testing.T) {
	for _, c := range []struct {
		i    api.Instr
		at   int
		want int
		ok   bool
	}{
		{beq(0), 0, 1, true},
		{beq(-1), 0, 0, true},
		{beq(-1), 7, 7, true},
		{beq(-3), 7, 5, true},
		{bne(4), 7, 12, true},
		{bne(-4096), 4095, 0, true},
		{bne(0), 4095, 4096, true},
		{two(api.Beq, 31, 31, 5), 5, 11, true},
		{beq(-2), 0, -1, true},
		{beq(-32768), 0, -32767, true},
		{bne(32767), 0, 32768, true},
		{bne(32767), 4095, 36863, true},
		{beq(0), -1, 0, true},
		{beq(3), -9, -5, true},
		{bne(-3), -9, -11, true},
		{beq(1), 1 << 40, 1<<40 + 2, true},
		{bne(-1), 1 << 40, 1 << 40, true},
		{beq(5), -1 << 40, 6 - 1<<40, true},
		{jmp(0), 0, 0, true},
		{jmp(5), 0, 5, true},
		{jmp(5), 5, 5, true},
		{jmp(4096), 9, 4096, true},
		{jmp(5), -9, 5, true},
		{jmp(0), 1 << 40, 0, true},
		{jal(0), 3, 0, true},
		{jal(9), 3, 9, true},
		{jal(4096), -1, 4096, true},
		{jr(31), 3, 0, false},
		{jr(0), 3, 0, false},
		{nop, 3, 0, false},
		{three(api.Add, 1, 2, 3), 3, 0, false},
		{put(1, 9), 3, 0, false},
		{two(api.Check, 1, 5, 9), 3, 0, false},
		{two(api.Sw, 1, 2, 9), 3, 0, false},
		{sys(2), 3, 0, false},
		{jmp(4097), 3, 0, false},
		{jmp(-1), 3, 0, false},
		{jal(4097), 3, 0, false},
		{beq(32768), 3, 0, false},
		{bne(-32769), 3, 0, false},
		{two(api.Beq, 32, 0, 1), 3, 0, false},
		{three(api.Bne, 0, 0, 1), 3, 0, false},
		{wrong, 3, 0, false},
	} {
		if got, ok := Target(c.i, c.at); got != c.want || ok != c.ok {
			t.Errorf("%+v at %d: %d, %v; want %d, %v", c.i, c.at, got, ok, c.want, c.ok)
		}
	}
}

// P9.1: each instruction, right or not, at each place, against the reference.
func TestTargetOfAll(t *testing.T) {
	for _, i := range append(rights(), wrongs()...) {
		for _, at := range places() {
			got, ok := Target(i, at)
			want, wantOk := refTarget(i, at)
			if got != want || ok != wantOk {
				t.Errorf("%+v at %d: %d, %v; want %d, %v", i, at, got, ok, want, wantOk)
			}
		}
	}
}

// P1: a place at an end of all numbers is asked of, too; a jump goes from there
// as from any other.
func TestTargetEnds(t *testing.T) {
	for _, at := range []int{math.MaxInt, math.MinInt, math.MaxInt - 1, math.MinInt + 1} {
		if to, ok := Target(jmp(9), at); to != 9 || !ok {
			t.Errorf("jmp at %d: %d, %v", at, to, ok)
		}
		if _, ok := Target(bne(9), at); !ok {
			t.Errorf("bne at %d goes nowhere", at)
		}
	}
}

// P9.1, P9.2: each operation alone, and among others.
func TestEachInstruction(t *testing.T) {
	for _, i := range rights() {
		agree(t, "alone", list(i))
		agree(t, "first of two", list(i, put(1, 2)))
		agree(t, "last of two", list(put(1, 2), i))
		agree(t, "amid nine", with(nops(9), 4, i))
		agree(t, "amid many", with(nops(4096), 5, i))
	}
}

// P9.1: wrong instructions alone, and among right ones: no such code is fit,
// and none has heads or blocks.
func TestWrongInstructions(t *testing.T) {
	around := list(put(1, 1), bne(1), nop, jal(5), jmp(6), jr(31))
	if !Strict(around) {
		t.Fatal("what stands around is not strict")
	}
	for _, i := range wrongs() {
		for _, code := range [][]api.Instr{list(i), with(around, 0, i), with(around, 2, i), with(around, 5, i), with(nops(4096), 4095, i)} {
			if Fit(code) || Strict(code) || len(Heads(code)) > 0 || len(Blocks(code)) > 0 {
				t.Errorf("%+v in code of %d: fit %v, strict %v, heads %v, blocks %v",
					i, len(code), Fit(code), Strict(code), Heads(code), Blocks(code))
			}
		}
	}
}

// P9.1: how far in code each that names a place may go: to all places and the
// end, to none below 0 and none behind the end.
func TestFitTargets(t *testing.T) {
	for _, c := range []struct {
		name string
		code []api.Instr
		want bool
	}{
		{"beq to 0", list(nop, beq(-2), nop), true},
		{"beq to -1", list(nop, beq(-3), nop), false},
		{"beq to the last", list(nop, beq(0), nop), true},
		{"beq to the end", list(nop, beq(1), nop), true},
		{"beq behind the end", list(nop, beq(2), nop), false},
		{"bne to 0", list(nop, bne(-2), nop), true},
		{"bne to -1", list(nop, bne(-3), nop), false},
		{"bne to the end", list(nop, bne(1), nop), true},
		{"bne behind the end", list(nop, bne(2), nop), false},
		{"bne far behind", list(nop, bne(32767), nop), false},
		{"bne far ahead", list(nop, bne(-32768), nop), false},
		{"jmp to 0", list(nop, jmp(0), nop), true},
		{"jmp to the end", list(nop, jmp(3), nop), true},
		{"jmp behind the end", list(nop, jmp(4), nop), false},
		{"jmp far behind", list(nop, jmp(4096), nop), false},
		{"jal to 0", list(nop, jal(0), nop), true},
		{"jal to the end", list(nop, jal(3), nop), true},
		{"jal behind the end", list(nop, jal(4), nop), false},
		{"jal far behind", list(nop, jal(4096), nop), false},
		{"of registers that are alike", list(two(api.Bne, 1, 1, 9)), false},
		{"that is never reached", list(sys(0), beq(9)), false},
		{"one of three", list(beq(0), bne(1), jmp(9)), false},
		{"a jr goes anywhere", list(jr(9)), true},
		{"a number that no one goes by", list(put(1, 32767), two(api.Lw, 1, 0, -32768), two(api.Check, 1, 1, 9)), true},
	} {
		if got := Fit(c.code); got != c.want {
			t.Errorf("%s: fit %v", c.name, got)
		}
		agree(t, c.name, c.code)
	}
}

// P9.1: code of no instruction, of MaxCode, and of more.
func TestMostCode(t *testing.T) {
	const most = 4096
	all := nops(most)
	hold(t, []byHand{
		{"nil", nil, true, true, nil, nil},
		{"none", list(), true, true, nil, nil},
		{"most", all, true, true, []int{0}, []int{most}},
		{"most, jmp to the end", with(all, 0, jmp(most)), true, true, []int{0, 1}, []int{1, most}},
		{"most, jmp to the last", with(all, 0, jmp(most-1)), true, true, []int{0, 1, most - 1}, []int{1, most - 1, most}},
		{"most, bne to 0", with(all, most-1, bne(-most)), true, true, []int{0}, []int{most}},
		{"most, bne to 1", with(all, most-1, bne(1-most)), true, true, []int{0, 1}, []int{1, most}},
		{"most, beq to -1", with(all, most-1, beq(-most-1)), false, false, nil, nil},
		{"most, beq to the end", with(all, most-1, beq(0)), true, true, []int{0}, []int{most}},
		{"most, beq behind the end", with(all, most-1, beq(1)), false, false, nil, nil},
		{"most, beq from 0 to the end", with(all, 0, beq(most-1)), true, true, []int{0, 1}, []int{1, most}},
		{"most, beq from 0 behind the end", with(all, 0, beq(most)), false, false, nil, nil},
		{"less than most, jmp to the end", with(nops(most-1), 0, jmp(most-1)), true, true, []int{0, 1}, []int{1, most - 1}},
		{"less than most, jmp behind the end", with(nops(most-1), 0, jmp(most)), false, false, nil, nil},
		{"one more", nops(most + 1), false, false, nil, nil},
		{"one more, that goes", with(nops(most+1), 0, jmp(1)), false, false, nil, nil},
		{"many more", nops(40000), false, false, nil, nil},
	})
	each := make([]api.Instr, most)
	for at := range each {
		each[at] = jmp(most - at)
	}
	agree(t, "most, all go", each)
	if got := Heads(each); len(got) != most || got[most-1] != most-1 {
		t.Errorf("most, all go: %d heads", len(got))
	}
}

// P9.1: register 31 touched by each operation that can, and not touched by what
// has its number where no register stands.
func TestStrictTouches(t *testing.T) {
	for op := api.Add; op <= api.Seq; op++ {
		for n, i := range list(three(op, 31, 0, 0), three(op, 0, 31, 0), three(op, 0, 0, 31), three(op, 30, 29, 1)) {
			if code := list(nop, i); !Fit(code) || Strict(code) != (n == 3) {
				t.Errorf("%+v: fit %v, strict %v", i, Fit(code), Strict(code))
			}
		}
	}
	for _, c := range []struct {
		i    api.Instr
		want bool
	}{
		{put(31, 1), false},
		{two(api.AddI, 1, 31, 1), false},
		{two(api.AddI, 0, 31, 0), false},
		{two(api.AddI, 31, 31, 0), false},
		{two(api.AddI, 1, 2, 31), true},
		{two(api.Lui, 31, 0, 1), false},
		{two(api.Lui, 30, 0, 31), true},
		{two(api.Lw, 31, 1, 0), false},
		{two(api.Lw, 1, 31, 0), false},
		{two(api.Lw, 0, 31, 0), false},
		{two(api.Lw, 1, 2, 31), true},
		{two(api.Sw, 31, 1, 0), false},
		{two(api.Sw, 1, 31, 0), false},
		{two(api.Sw, 1, 2, 31), true},
		{two(api.Check, 31, 1, 9), false},
		{two(api.Check, 1, 31, 9), true},
		{two(api.Check, 1, 2, 31), true},
		{two(api.Beq, 31, 0, 0), false},
		{two(api.Beq, 0, 31, 0), false},
		{two(api.Bne, 31, 0, 0), false},
		{two(api.Bne, 0, 31, 0), false},
		{two(api.Bne, 31, 31, -1), false},
		{two(api.Beq, 30, 1, 0), true},
		{jmp(1), true},
		{jal(1), true},
		{jr(31), true},
		{jr(30), false},
		{jr(1), false},
		{jr(0), false},
		{sys(0), true},
		{sys(1), true},
		{sys(2), true},
		{nop, true},
	} {
		for at := range 3 {
			code := with(list(nop, jal(2), jr(31)), at, c.i)
			if !Fit(code) || Strict(code) != c.want {
				t.Errorf("%+v at %d: fit %v, strict %v", c.i, at, Fit(code), Strict(code))
			}
			agree(t, "strict", code)
		}
	}
}

// P9.1: code that makes links and goes back by them, that has one of these
// alone, or none; and code that is strict but for one, or but not fit.
func TestStrictCode(t *testing.T) {
	hold(t, []byHand{
		{"neither", list(put(1, 2), sys(0)), true, true, []int{0}, []int{2}},
		{"calls and comes back", list(jal(2), sys(0), put(4, 7), jr(31)), true, true, []int{0, 1, 2}, []int{1, 2, 4}},
		{"calls alone", list(jal(1), jal(0)), true, true, []int{0, 1}, []int{1, 2}},
		{"comes back alone", list(jr(31)), true, true, []int{0}, []int{1}},
		{"keeps a link", list(jal(3), sys(0), nop, two(api.Sw, 31, 29, 0), jr(31)), true, false, []int{0, 1, 3}, []int{1, 3, 5}},
		{"one of two goes by another register", list(jr(31), jr(1)), true, false, []int{0, 1}, []int{1, 2}},
		{"another one first", list(jr(1), jr(31)), true, false, []int{0, 1}, []int{1, 2}},
		{"calls beyond", list(jal(3), jr(31)), false, false, nil, nil},
	})
}

// P9.2: where a branch leads: to 0, itself, the next place, the last one, the
// end; and an instruction that goes first, last, beside another one, or to
// where another one goes.
func TestHeads(t *testing.T) {
	hold(t, []byHand{
		{"one", list(nop), true, true, []int{0}, []int{1}},
		{"none that goes", list(put(1, 1), sys(2), sys(0)), true, true, []int{0}, []int{3}},
		{"to 0", list(nop, nop, beq(-3), nop), true, true, []int{0, 3}, []int{3, 4}},
		{"to itself", list(nop, nop, beq(-1), nop), true, true, []int{0, 2, 3}, []int{2, 3, 4}},
		{"to the next", list(nop, beq(0), nop, nop), true, true, []int{0, 2}, []int{2, 4}},
		{"to the one behind that", list(nop, beq(1), nop, nop), true, true, []int{0, 2, 3}, []int{2, 3, 4}},
		{"to the last", list(beq(2), nop, nop, nop), true, true, []int{0, 1, 3}, []int{1, 3, 4}},
		{"to the end", list(nop, beq(2), nop, nop), true, true, []int{0, 2}, []int{2, 4}},
		{"one further", list(nop, beq(3), nop, nop), false, false, nil, nil},
		{"jmp to itself", list(nop, jmp(1), nop), true, true, []int{0, 1, 2}, []int{1, 2, 3}},
		{"jmp back", list(nop, nop, nop, jmp(1), nop), true, true, []int{0, 1, 4}, []int{1, 4, 5}},
		{"jmp to the end", list(jmp(2), nop), true, true, []int{0, 1}, []int{1, 2}},
		{"first", list(jmp(1), nop, nop), true, true, []int{0, 1}, []int{1, 3}},
		{"last", list(nop, nop, jmp(1)), true, true, []int{0, 1}, []int{1, 3}},
		{"alone, to itself", list(jmp(0)), true, true, []int{0}, []int{1}},
		{"alone, to the end", list(beq(0)), true, true, []int{0}, []int{1}},
		{"side by side", list(nop, jmp(4), jal(4), nop, nop), true, true, []int{0, 2, 3, 4}, []int{2, 3, 4, 5}},
		{"all go", list(beq(0), bne(-2), jmp(3), jal(0), jr(31)), true, true, []int{0, 1, 2, 3, 4}, []int{1, 2, 3, 4, 5}},
		{"to the same", list(nop, beq(2), nop, jmp(4), nop, bne(-2), nop), true, true, []int{0, 2, 4, 6}, []int{2, 4, 6, 7}},
		{"two to the end", list(jmp(3), beq(1), nop), true, true, []int{0, 1, 2}, []int{1, 2, 3}},
		{"to behind another one", list(beq(1), jmp(0), nop), true, true, []int{0, 1, 2}, []int{1, 2, 3}},
		{"jr has no place", list(nop, nop, jr(31), nop, nop), true, true, []int{0, 3}, []int{3, 5}},
		{"jr's register is none", list(nop, jr(4), nop, nop, nop), true, false, []int{0, 2}, []int{2, 5}},
		{"jr last", list(nop, jr(31)), true, true, []int{0}, []int{2}},
		{"both ways", list(nop, bne(3), put(1, 1), jmp(6), nop, put(1, 2), nop, bne(-8)), true, true,
			[]int{0, 2, 4, 5, 6}, []int{2, 4, 5, 6, 8}},
		{"what stops goes on", list(sys(0), three(api.Div, 1, 2, 3), two(api.Check, 1, 2, 3), two(api.Lw, 1, 0, 0), nop), true, true,
			[]int{0}, []int{5}},
		{"numbers that are no places", list(put(2, 2), two(api.Lw, 1, 0, 3), two(api.Sw, 1, 0, 4), two(api.Check, 1, 3, 2),
			to(api.Lui, 3), sys(2)), true, true, []int{0}, []int{6}},
	})
}

// P9.1, P9.2, P9.3: all code of up to three instructions, of those that go to
// each place in reach, go back, touch register 31, do nothing, and are wrong.
func TestShortCode(t *testing.T) {
	all := list(nop, wrong, put(31, 0), jr(31), jr(1))
	for place := range 5 {
		all = append(all, jmp(place), jal(place))
	}
	for more := -5; more <= 3; more++ {
		all = append(all, beq(more), bne(more))
	}
	each(all, 3, func(code []api.Instr) { agree(t, "short", code) })
}

// P9.2, P9.3: all fit code of four, of one of each kind that goes.
func TestCodeOfFour(t *testing.T) {
	all := list(nop, jr(31))
	for place := range 5 {
		all = append(all, jmp(place))
	}
	for more := -4; more <= 3; more++ {
		all = append(all, bne(more))
	}
	each(all, 4, func(code []api.Instr) { agree(t, "four", code) })
}

// each hands on all code of up to so many of these instructions.
func each(all []api.Instr, most int, tell func(code []api.Instr)) {
	var grow func(code []api.Instr)
	grow = func(code []api.Instr) {
		tell(code)
		if len(code) == most {
			return
		}
		for _, i := range all {
			grow(append(slices.Clip(code), i))
		}
	}
	grow(nil)
}

// numbers tells numbers in no order that shows, the same in each run.
type numbers struct{ state uint64 }

func (n *numbers) below(end int) int {
	n.state += 0x9e3779b97f4a7c15
	z := n.state
	z = (z ^ z>>30) * 0xbf58476d1ce4e5b9
	z = (z ^ z>>27) * 0x94d049bb133111eb
	return int(z>>33) % end
}

// some is an instruction at a place of code of so many: one of each kind, all
// of which go inside; few of them touch register 31.
func (n *numbers) some(at int, many int) api.Instr {
	place := n.below(many + 1)
	switch n.below(12) {
	case 0:
		return two(api.Beq, n.below(31), n.below(31), place-at-1)
	case 1:
		return two(api.Bne, n.below(31), n.below(31), place-at-1)
	case 2:
		return jmp(place)
	case 3:
		return jal(place)
	case 4:
		return jr(31)
	case 5:
		return two(api.Sw, n.below(31), n.below(31), n.below(99))
	case 6:
		return put(28+n.below(4), n.below(9))
	}
	return three(api.Add+n.below(9), n.below(31), n.below(31), n.below(31))
}

// any is an instruction that may go outside, look at register 31, or be wrong.
func (n *numbers) any() api.Instr {
	l := list(beq(n.below(300)-150), bne(n.below(20)-10), jmp(n.below(200)), jal(n.below(200)), wrong, jr(2), jr(32), put(31, 0))
	return l[n.below(len(l))]
}

// P9.1, P9.2, P9.3: long code, of few blocks and of many; and the same with one
// instruction turned.
func TestLongCode(t *testing.T) {
	n := numbers{1}
	strict := 0
	for many := 1; many < 120; many++ {
		for turn := range 8 {
			code := nops(many)
			for at := range code {
				if n.below(turn+1) == 0 {
					code[at] = n.some(at, many)
				}
			}
			name := strconv.Itoa(many) + " turn " + strconv.Itoa(turn)
			agree(t, name, code)
			if !Fit(code) {
				t.Errorf("%s: not fit", name)
			}
			if Strict(code) {
				strict++
			}
			agree(t, name+" turned", with(code, n.below(many), n.any()))
		}
	}
	if strict < 99 || strict > 119*8-99 {
		t.Errorf("%d of the codes are strict: of one kind there are too few", strict)
	}
}

// P9.3: code of MaxCode, of few blocks and of many.
func TestLongestCode(t *testing.T) {
	n := numbers{2}
	for _, rare := range []int{1, 40, 1000} {
		code := nops(4096)
		for at := range code {
			if n.below(rare) == 0 {
				code[at] = n.some(at, len(code))
			}
		}
		agree(t, "longest", code)
		if !Fit(code) || len(Blocks(code)) < 2 {
			t.Errorf("one of %d: fit %v, %d blocks", rare, Fit(code), len(Blocks(code)))
		}
	}
}

// R1: what is handed in may be turned behind a call, and what was answered too:
// no later answer tells of it.
func TestNewMemory(t *testing.T) {
	code := list(put(1, 1), beq(1), nop, jmp(0))
	heads, blocks := Heads(code), Blocks(code)
	code[1], code[3] = nop, nop
	if !slices.Equal(heads, []int{0, 2, 3}) || !slices.Equal(blocks, []Block{{0, 2}, {2, 3}, {3, 4}}) {
		t.Errorf("of code that was turned: %v, %v", heads, blocks)
	}
	code[1], code[3] = beq(1), jmp(0)
	for n := range heads {
		heads[n], blocks[n] = 9, Block{9, 9}
	}
	agree(t, "again", code)
}
