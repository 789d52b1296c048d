package pipe

import (
	"math"
	"slices"
	"testing"

	"delayslot/api"
	"delayslot/seq"
)

const (
	least    = -1 << 31
	greatest = 1<<31 - 1
	round    = 1 << 32
)

// Short forms, so that code in tests reads as a list of instructions.

var nop, wrong = api.Instr{}, api.Instr{Op: 22}

func three(op int, a int, b int, c int) api.Instr { return api.Instr{Op: op, A: a, B: b, C: c} }
func two(op int, a int, b int, imm int) api.Instr { return api.Instr{Op: op, A: a, B: b, Imm: imm} }
func put(a int, v int) api.Instr                  { return two(api.AddI, a, 0, v) }
func copied(a int, b int) api.Instr               { return two(api.AddI, a, b, 0) }
func lui(a int, v int) api.Instr                  { return api.Instr{Op: api.Lui, A: a, Imm: v} }
func lw(a int, at int) api.Instr                  { return two(api.Lw, a, 0, at) }
func sw(a int, at int) api.Instr                  { return two(api.Sw, a, 0, at) }
func to(op int, place int) api.Instr              { return api.Instr{Op: op, Imm: place} }
func jr(a int) api.Instr                          { return api.Instr{Op: api.Jr, A: a} }
func sys(call int) api.Instr                      { return api.Instr{Op: api.Sys, Imm: call} }
func join(parts ...[]api.Instr) []api.Instr       { return slices.Concat(parts...) }
func list(i ...api.Instr) []api.Instr             { return i }
func told(v ...int) []int                         { return v }

func result(trap, cycles int, out, mem []int) seq.Result {
	return seq.Result{Trap: trap, Steps: cycles, Out: out, Mem: mem}
}

// load: two instructions that make a register any word.
func load(a int, v int) []api.Instr {
	low := int(int16(v))
	return list(lui(a, int(int16((v-low)>>16))), two(api.AddI, a, a, low))
}

// values has ordinary numbers, the ends of words, and numbers that are none.
func values() []int {
	return []int{0, 1, -1, 2, -2, 3, 7, -7, 10, -12, 255, 32767, -32768, 65535, 65536, -65537,
		0x5555aaaa, -0x5555aaab, 1000000007, -1000000007, greatest, greatest - 1, least, least + 1,
		greatest + 1, greatest + 2, least - 1, least - 2, round, round + 1, round - 1, -round, -round + 7, 3*round - 7,
		math.MaxInt, math.MaxInt - 1, math.MinInt, math.MinInt + 1}
}

// byHand is code with what it must tell, of four cells and the input 8, 9.
type byHand struct {
	name string
	code []api.Instr
	want seq.Result
}

// hold runs all of these with enough cycles; and with each number of cycles it
// holds them against the reference, so that this is held against hands, too.
func hold(t *testing.T, all []byHand) {
	t.Helper()
	for _, c := range all {
		expect(t, c.name, Run(c.code, 4, told(8, 9), 999), c.want)
		agree(t, c.code, 4, told(8, 9), 40)
	}
}

// P8.1: the chapter's example.
func TestExample(t *testing.T) {
	hold(t, []byHand{{"example", list(put(4, 7), sys(2), sys(0)), result(api.Halted, 6, told(7), nil)}})
}

// P8.1: how many cycles there were: none, three, four, just enough, and more
// than are needed; what acted by then is told.
func TestCycles(t *testing.T) {
	code := list(put(4, 7), sw(4, 1), sys(2), sys(0))
	for cycles, want := range []seq.Result{
		result(api.Runs, 0, nil, nil), result(api.Runs, 1, nil, nil), result(api.Runs, 2, nil, nil),
		result(api.Runs, 3, nil, nil), result(api.Runs, 4, nil, nil), result(api.Runs, 5, nil, told(0, 7)),
		result(api.Runs, 6, told(7), told(0, 7)), result(api.Halted, 7, told(7), told(0, 7)),
		result(api.Halted, 7, told(7), told(0, 7)), result(api.Halted, 7, told(7), told(0, 7)),
	} {
		expect(t, "cycles", Run(code, 2, nil, cycles), want)
	}
	for _, cycles := range []int{100, greatest, round, math.MaxInt - 1, math.MaxInt} {
		expect(t, "many", Run(code, 2, nil, cycles), result(api.Halted, 7, told(7), told(0, 7)))
	}
	loop := list(to(api.Jmp, 0), nop)
	for _, cycles := range []int{0, 1, 2, 3, 4, 5, 100, 99999} {
		expect(t, "without end", Run(loop, 0, nil, cycles), result(api.Runs, cycles, nil, nil))
	}
}

// P8.1, R2: below no cycle there is none.
func TestCyclesBelowNone(t *testing.T) {
	for _, code := range [][]api.Instr{nil, list(sys(0)), list(sys(2)), list(wrong)} {
		for _, cycles := range []int{0, -1, -3, -4, least, -round, -round + 9, math.MinInt, math.MinInt + 1} {
			expect(t, "none", Run(code, 3, told(1), cycles), result(api.Runs, 0, nil, nil))
		}
	}
}

// P8.1: each instruction that stops does so three cycles behind its fetch, in a
// slot as elsewhere; what stands behind it does not act any more.
func TestStops(t *testing.T) {
	for _, c := range []struct {
		i    api.Instr
		trap int
	}{
		{sys(0), api.Halted}, {wrong, api.Illegal},
		{three(api.Div, 1, 2, 0), api.Zero}, {three(api.Mod, 1, 2, 0), api.Zero}, {three(api.Div, 0, 0, 0), api.Zero},
		{lw(1, 4), api.Address}, {lw(0, -1), api.Address}, {two(api.Lw, 4, 4, 3), api.Address}, {sw(4, 4), api.Address},
		{two(api.Check, 0, 0, 0), api.Bounds}, {two(api.Check, 4, 0, 9), api.Bounds}, {two(api.Check, 4, 7, 8), api.NoRoom},
		{two(api.Check, 0, 31, 0), 31}, {two(api.Check, 0, 1, 0), api.Halted},
	} {
		hold(t, []byHand{
			{"behind one", list(put(4, 9), c.i, sys(2), sw(4, 0)), result(c.trap, 5, nil, nil)},
			{"in a slot", list(put(4, 9), to(api.Jmp, 3), c.i, sys(2), sw(4, 0)), result(c.trap, 6, nil, nil)},
			{"in a slot that goes on", list(put(4, 9), two(api.Bne, 0, 0, 2), c.i, sys(2)), result(c.trap, 6, nil, nil)},
			{"where one went", list(put(4, 9), to(api.Jmp, 4), sys(2), sys(0), c.i, sys(2)), result(c.trap, 7, told(9), nil)},
			{"behind a late one", list(put(4, 9), lw(1, 0), c.i, sys(2)), result(c.trap, 6, nil, nil)},
		})
	}
	hold(t, []byHand{
		{"a check that holds", list(put(4, 9), two(api.Check, 4, 0, 10), two(api.Check, 0, 5, 1), sys(2), sys(0)), result(api.Halted, 8, told(9), nil)},
		{"a check of less", list(put(4, -1), two(api.Check, 4, 0, 32767)), result(api.Bounds, 5, nil, nil)},
	})
}

// P8.1: the slot behind each that goes is done, whether it goes or stays; what
// it goes over is not.
func TestSlots(t *testing.T) {
	end := list(put(4, 1), put(4, 2), sys(2), sys(0))
	hold(t, []byHand{
		{"jmp", join(list(to(api.Jmp, 3)), end), result(api.Halted, 7, told(1), nil)},
		{"jal", join(list(to(api.Jal, 3)), end), result(api.Halted, 7, told(1), nil)},
		{"jr", join(list(put(1, 4), jr(1)), end), result(api.Halted, 8, told(1), nil)},
		{"beq goes", join(list(two(api.Beq, 0, 0, 2)), end), result(api.Halted, 7, told(1), nil)},
		{"beq stays", join(list(put(1, 1), two(api.Beq, 1, 0, 2)), end), result(api.Halted, 9, told(2), nil)},
		{"bne goes", join(list(put(1, 1), two(api.Bne, 1, 0, 2)), end), result(api.Halted, 8, told(1), nil)},
		{"bne stays", join(list(two(api.Bne, 0, 0, 2)), end), result(api.Halted, 8, told(2), nil)},
		{"the slot once more", list(two(api.Beq, 0, 0, 0), two(api.AddI, 4, 4, 1), sys(2), sys(0)), result(api.Halted, 8, told(2), nil)},
		{"to itself", list(two(api.Beq, 4, 0, -1), two(api.AddI, 4, 4, 1), sys(2), sys(0)), result(api.Halted, 9, told(2), nil)},
		{"a slot turns what was asked", list(two(api.Beq, 1, 0, 2), put(1, 5), sys(0), copied(4, 1), sys(2), sys(0)), result(api.Halted, 8, told(5), nil)},
		{"a slot turns where it goes", list(put(1, 5), jr(1), put(1, 4), sys(0), sys(0), copied(4, 1), sys(2), sys(0)), result(api.Halted, 9, told(4), nil)},
	})
}

// P8.1: code that loops, with a Nop or with work in the slot, and that jumps
// and comes back.
func TestLoops(t *testing.T) {
	hold(t, []byHand{
		{"nop", list(put(4, 3), sys(2), two(api.AddI, 4, 4, -1), two(api.Bne, 4, 0, -3), nop, sys(0)),
			result(api.Halted, 17, told(3, 2, 1), nil)},
		{"work", list(put(4, 3), sys(2), two(api.Bne, 4, 0, -2), two(api.AddI, 4, 4, -1), sys(0)),
			result(api.Halted, 17, told(3, 2, 1, 0), nil)},
		{"there and back", list(to(api.Jal, 5), put(4, 6), to(api.Jal, 5), put(4, 7), sys(0), jr(31), sys(2)),
			result(api.Halted, 12, told(6, 7), nil)},
	})
}

// P8.1: one that goes in the slot of another: one instruction where the first
// one says is done, which is the slot of the second one; then it goes where
// that says. One that stays says nothing.
func TestGoesInSlot(t *testing.T) {
	halt := sys(0)
	hold(t, []byHand{
		{"jmp, jmp", list(to(api.Jmp, 4), to(api.Jmp, 6), halt, halt, put(4, 1), halt, sys(2), halt), result(api.Halted, 8, told(1), nil)},
		{"jmp, one that stays", list(to(api.Jmp, 4), two(api.Bne, 0, 0, 5), halt, halt, put(4, 1), sys(2), halt), result(api.Halted, 8, told(1), nil)},
		{"one that stays, beq", list(two(api.Bne, 0, 0, 7), two(api.Beq, 0, 0, 2), put(4, 5), halt, sys(2), halt), result(api.Halted, 8, told(5), nil)},
		{"two that stay", list(two(api.Bne, 0, 0, 7), two(api.Bne, 0, 0, 7), put(4, 5), sys(2), halt), result(api.Halted, 8, told(5), nil)},
		{"jmp, beq of its own place", list(to(api.Jmp, 5), two(api.Beq, 0, 0, 1), halt, sys(2), halt, put(4, 9), halt), result(api.Halted, 8, told(9), nil)},
		{"jmp, jal", list(to(api.Jmp, 4), to(api.Jal, 5), nop, nop, copied(4, 31), sys(2), halt), result(api.Halted, 8, told(3), nil)},
		{"jal, jal", list(to(api.Jal, 3), to(api.Jal, 4), nop, copied(4, 31), sys(2), halt), result(api.Halted, 8, told(3), nil)},
		{"jal, jr", list(to(api.Jal, 4), jr(31), sys(2), halt, put(4, 6)), result(api.Halted, 8, told(6), nil)},
		{"jr, jr", list(put(1, 5), put(2, 7), jr(1), jr(2), halt, put(4, 8), halt, sys(2), halt), result(api.Halted, 10, told(8), nil)},
		{"three", list(to(api.Jmp, 5), to(api.Jmp, 6), halt, halt, halt, to(api.Jmp, 8), put(4, 3), halt, sys(2), halt), result(api.Halted, 9, told(3), nil)},
		{"the first one goes nowhere", list(to(api.Jmp, 9), to(api.Jmp, 2), sys(2), halt), result(api.Fetch, 6, nil, nil)},
		{"the second one goes nowhere", list(to(api.Jmp, 2), to(api.Jmp, 9), sys(2), halt), result(api.Fetch, 7, told(0), nil)},
	})
}

// P8.1: register 31 of a Jal is its place and 2, in its slot and behind it;
// what the slot writes there stays, and what is late there comes later.
func TestLinks(t *testing.T) {
	show := list(copied(4, 31), sys(2), copied(4, 31), sys(2), sys(0))
	hold(t, []byHand{
		{"in the slot", list(to(api.Jal, 3), copied(4, 31), sys(0), sys(2), sys(0)), result(api.Halted, 7, told(2), nil)},
		{"behind it", join(list(nop, nop, to(api.Jal, 4), nop), show), result(api.Halted, 12, told(4, 4), nil)},
		{"the slot writes", join(list(to(api.Jal, 2), put(31, 9)), show), result(api.Halted, 10, told(9, 9), nil)},
		{"the slot is late", join(list(put(1, 9), sw(1, 0), to(api.Jal, 4), lw(31, 0)), show), result(api.Halted, 12, told(4, 9), told(9))},
		{"behind a late one", join(list(put(1, 9), sw(1, 0), lw(31, 0), to(api.Jal, 5), nop), show), result(api.Halted, 13, told(5, 5), told(9))},
		{"the others write none", list(to(api.Jmp, 2), nop, two(api.Beq, 0, 0, 1), nop, copied(4, 31), sys(2), sys(0)), result(api.Halted, 10, told(0), nil)},
	})
}

// P8.1: what each reads just behind a late one is what the register was; one
// further behind it is what was loaded. Register 1 was 1, and is 2.
func TestReadBehindLate(t *testing.T) {
	ahead := list(put(2, 10), sw(2, 1), put(2, 20), sw(2, 2), put(2, 2), sw(2, 0), put(1, 1), lw(1, 0))
	show := list(sys(2), sys(0))
	mark := list(put(4, 5), put(4, 6), sys(2), sys(0))
	for _, c := range []struct {
		name     string
		code     []api.Instr
		was, now int
	}{
		{"addi", join(list(copied(4, 1)), show), 1, 2},
		{"add, B", join(list(three(api.Add, 4, 1, 0)), show), 1, 2},
		{"add, C", join(list(three(api.Add, 4, 0, 1)), show), 1, 2},
		{"sub, B and C", join(list(three(api.Sub, 4, 1, 1)), show), 0, 0},
		{"mul, B and C", join(list(three(api.Mul, 4, 1, 1)), show), 1, 4},
		{"div, C", join(list(three(api.Div, 4, 2, 1)), show), 2, 1},
		{"slt, B", join(list(three(api.Slt, 4, 1, 2)), show), 1, 0},
		{"seq, C", join(list(three(api.Seq, 4, 2, 1)), show), 0, 1},
		{"lw, B", join(list(two(api.Lw, 4, 1, 0), nop), show), 10, 20},
		{"sw, A", join(list(sw(1, 3), lw(4, 3), nop), show), 1, 2},
		{"sw, B", join(list(two(api.Sw, 2, 1, 0), lw(4, 1), nop), show), 2, 10},
		{"beq, A", join(list(two(api.Beq, 1, 2, 2)), mark), 6, 5},
		{"beq, B", join(list(two(api.Beq, 2, 1, 2)), mark), 6, 5},
		{"bne, A", join(list(two(api.Bne, 1, 2, 2)), mark), 5, 6},
		{"bne, B", join(list(two(api.Bne, 2, 1, 2)), mark), 5, 6},
	} {
		for wait, want := range []int{c.was, c.now, c.now} {
			code := join(ahead, make([]api.Instr, wait), c.code)
			if r := Run(code, 4, nil, 99); r.Trap != api.Halted || !slices.Equal(r.Out, told(want)) {
				t.Errorf("%s, %d behind: %s, want %d", c.name, wait, brief(r), want)
			}
			agree(t, code, 4, nil, 30)
		}
	}
	check := two(api.Check, 1, 9, 2)
	expect(t, "check", Run(join(ahead, list(check, sys(0))), 4, nil, 99), result(api.Halted, 13, nil, told(2, 10, 20)))
	expect(t, "check, behind", Run(join(ahead, list(nop, check, sys(0))), 4, nil, 99), result(9, 13, nil, told(2, 10, 20)))
}

// P8.1: a Jr just behind a late one goes where the register said.
func TestGoBehindLate(t *testing.T) {
	ahead := list(put(1, 9), sw(1, 0), put(1, 7), lw(1, 0))
	behind := list(put(4, 1), sys(2), sys(2), sys(0))
	hold(t, []byHand{
		{"just behind", join(ahead, list(jr(1), nop, sys(0)), behind), result(api.Halted, 13, told(1, 1), told(9))},
		{"one further", join(ahead, list(nop, jr(1), nop), behind), result(api.Halted, 12, told(0), told(9))},
	})
}

// P8.1: what is read of the input is late, too.
func TestReadIsLate(t *testing.T) {
	hold(t, []byHand{
		{"told just behind", list(put(4, 7), sys(1), sys(2), sys(2), sys(0)), result(api.Halted, 8, told(7, 8), nil)},
		{"echoes", list(sys(1), sys(2), sys(1), sys(2), sys(2), sys(0)), result(api.Halted, 9, told(0, 8, 9), nil)},
		{"added just behind", list(put(4, 7), sys(1), three(api.Add, 4, 4, 4), sys(2), sys(2), sys(0)), result(api.Halted, 9, told(14, 14), nil)},
		{"only register 4", list(put(3, 1), put(5, 2), sys(1), nop, copied(4, 3), sys(2), copied(4, 5), sys(2), sys(0)), result(api.Halted, 12, told(1, 2), nil)},
	})
}

// P8.1: a late one whose register the next one writes, too: its own stays, and
// what it reads is what the register was.
func TestNextWritesToo(t *testing.T) {
	ahead := list(put(4, 5), sw(4, 0), put(4, 6), lw(4, 0))
	show := list(sys(2), sys(2), sys(0))
	hold(t, []byHand{
		{"addi", join(ahead, list(put(4, 7)), show), result(api.Halted, 11, told(7, 7), told(5))},
		{"add of it", join(ahead, list(three(api.Add, 4, 4, 4)), show), result(api.Halted, 11, told(12, 12), told(5))},
		{"lui", join(ahead, list(lui(4, 1)), show), result(api.Halted, 11, told(65536, 65536), told(5))},
		{"of the input", join(list(sys(1), put(4, 7)), show), result(api.Halted, 8, told(7, 7), nil)},
		{"one further", join(ahead, list(nop, put(4, 7)), show), result(api.Halted, 12, told(7, 7), told(5))},
		{"in a slot", join(ahead, list(to(api.Jmp, 6), put(4, 7)), show), result(api.Halted, 12, told(7, 7), told(5))},
	})
}

// P8.1: a late one behind another: each is there one instruction later, of the
// same register, too.
func TestLateBehindLate(t *testing.T) {
	ahead := list(put(1, 2), sw(1, 0), put(1, 3), sw(1, 2), put(4, 7))
	cells := told(2, 0, 3)
	hold(t, []byHand{
		{"the same register", join(ahead, list(lw(4, 0), lw(4, 2), sys(2), sys(2), sys(0))), result(api.Halted, 13, told(2, 3), cells)},
		{"of the input", list(put(4, 7), sys(1), sys(1), sys(2), sys(2), sys(0)), result(api.Halted, 9, told(8, 9), nil)},
		{"of both", join(ahead, list(lw(4, 0), sys(1), sys(2), sys(2), sys(0))), result(api.Halted, 13, told(2, 8), cells)},
		{"of both, the other way", join(ahead, list(sys(1), lw(4, 2), sys(2), sys(2), sys(0))), result(api.Halted, 13, told(8, 3), cells)},
		{"other registers", join(ahead, list(lw(1, 0), lw(2, 2), copied(4, 1), sys(2), copied(4, 2), sys(2), sys(0))), result(api.Halted, 15, told(2, 3), cells)},
		{"by what was loaded", join(list(put(1, 2), sw(1, 0), put(1, 3), sw(1, 2), put(1, 0)), list(lw(1, 0), two(api.Lw, 4, 1, 0), nop, sys(2), sys(0))), result(api.Halted, 13, told(2), cells)},
		{"of its own register", join(ahead, list(put(1, 0), two(api.Lw, 1, 1, 0), nop, two(api.Lw, 1, 1, 0), copied(4, 1), sys(2), copied(4, 1), sys(2), sys(0))), result(api.Halted, 17, told(2, 3), cells)},
		{"the third one writes", join(ahead, list(lw(4, 0), lw(4, 2), put(4, 1), sys(2), sys(2), sys(0))), result(api.Halted, 14, told(1, 1), cells)},
	})
}

// P8.1: a late one of register 0 leaves it 0, and stops, where there is no
// cell; one of another register that stands ahead of it is there.
func TestLateOfRegisterNought(t *testing.T) {
	ahead := list(put(1, 5), sw(1, 0))
	hold(t, []byHand{
		{"alone", join(ahead, list(lw(0, 0), copied(4, 0), sys(2), copied(4, 0), sys(2), sys(0))), result(api.Halted, 11, told(0, 0), told(5))},
		{"behind another", join(ahead, list(lw(4, 0), lw(0, 0), sys(2), sys(0))), result(api.Halted, 9, told(5), told(5))},
		{"ahead of another", join(ahead, list(lw(0, 0), lw(4, 0), sys(2), sys(2), sys(0))), result(api.Halted, 10, told(0, 5), told(5))},
		{"no cell", list(lw(0, 4), sys(2)), result(api.Address, 4, nil, nil)},
		{"reckoned", list(put(0, 5), three(api.Seq, 0, 0, 0), lui(0, 3), copied(4, 0), sys(2), sys(0)), result(api.Halted, 9, told(0), nil)},
	})
}

// P8.1: a late one in a slot, whether the one ahead goes or stays; and one just
// ahead of one that goes, which is there in the slot.
func TestLateInSlot(t *testing.T) {
	ahead := list(put(4, 5), sw(4, 0), put(4, 6))
	show := list(sys(2), sys(2), sys(0))
	hold(t, []byHand{
		{"of one that goes", join(ahead, list(to(api.Jmp, 6), lw(4, 0), sys(0)), show), result(api.Halted, 11, told(6, 5), told(5))},
		{"of one that stays", join(ahead, list(two(api.Bne, 0, 0, 3), lw(4, 0)), show), result(api.Halted, 11, told(6, 5), told(5))},
		{"of the input", join(ahead, list(to(api.Jal, 6), sys(1), sys(0)), show), result(api.Halted, 11, told(6, 8), told(5))},
		{"ahead of one that goes", join(ahead, list(lw(4, 0), to(api.Jmp, 6), sys(2)), show), result(api.Halted, 12, told(5, 5, 5), told(5))},
		{"the next one writes, too", join(ahead, list(to(api.Jmp, 6), lw(4, 0), sys(0), put(4, 7)), show), result(api.Halted, 12, told(7, 7), told(5))},
		{"no cell", join(ahead, list(to(api.Jmp, 6), lw(4, 9), sys(0)), show), result(api.Address, 8, nil, told(5))},
		{"the last number, and one more", list(to(api.Jmp, 2), sys(1), sys(1), to(api.Jmp, 5), sys(1), sys(2)), result(api.NoInput, 8, nil, nil)},
	})
}

// P8.1: a cell is there at once, for the next one, too.
func TestCells(t *testing.T) {
	hold(t, []byHand{
		{"stored, loaded", list(put(1, 5), sw(1, 3), lw(4, 3), nop, sys(2), sys(0)), result(api.Halted, 9, told(5), told(0, 0, 0, 5))},
		{"loaded, stored", list(put(1, 5), sw(1, 3), put(2, 6), lw(4, 3), sw(2, 3), sys(2), sys(0)), result(api.Halted, 10, told(5), told(0, 0, 0, 6))},
		{"stored twice", list(put(1, 5), sw(1, 0), sw(0, 0), lw(4, 0), nop, sys(2), sys(0)), result(api.Halted, 10, told(0), nil)},
		{"by a register", list(put(1, 5), two(api.Sw, 1, 1, -3), two(api.Lw, 4, 1, -3), nop, sys(2), sys(0)), result(api.Halted, 9, told(5), told(0, 0, 5))},
		{"brought round", join(load(1, -7), list(two(api.Sw, 1, 1, 7), sys(0))), result(api.Halted, 7, nil, told(-7))},
		{"round at the end", join(load(1, greatest), list(two(api.Lw, 4, 1, 1))), result(api.Address, 6, nil, nil)},
		{"round at the beginning", join(load(1, least), list(two(api.Sw, 1, 1, -32768))), result(api.Address, 6, nil, nil)},
	})
}

// P8.1: a slot behind the code's end is not there, whatever goes.
func TestSlotBehindTheEnd(t *testing.T) {
	for _, i := range list(to(api.Jmp, 0), to(api.Jal, 0), jr(0), two(api.Beq, 0, 0, -2), two(api.Bne, 0, 0, -2), two(api.Bne, 4, 0, -2)) {
		hold(t, []byHand{
			{"alone", list(i), result(api.Fetch, 5, nil, nil)},
			{"behind one", list(sys(2), i), result(api.Fetch, 6, told(0), nil)},
			{"where one went", list(to(api.Jmp, 2), nop, i), result(api.Fetch, 7, nil, nil)},
		})
	}
}

// P8.1: where there is no instruction the machine stops by Fetch, three cycles
// behind that in which it would be fetched; the slot ahead is done.
func TestPlacesOutside(t *testing.T) {
	for _, place := range []int{-1, -2, -4096, least, 4, 5, 6, 4095, 4096, 4097, 32767, greatest} {
		code := join(load(4, place), list(jr(4), sys(2)))
		hold(t, []byHand{{"jr", code, result(api.Fetch, 8, told(place), nil)}})
	}
	for _, by := range []int{-2, -3, -32768, 1, 2, 4096, 32767} {
		hold(t, []byHand{
			{"beq", list(two(api.Beq, 0, 0, by), sys(2)), result(api.Fetch, 6, told(0), nil)},
			{"bne stays", list(two(api.Bne, 0, 0, by), sys(2)), result(api.Fetch, 6, told(0), nil)},
		})
	}
	for _, by := range []int{-3, -4, -32768, 1, 2, 4096, 32767} {
		hold(t, []byHand{{"bne goes", list(put(1, 1), two(api.Bne, 1, 0, by), sys(2)), result(api.Fetch, 7, told(0), nil)}})
	}
	for _, place := range []int{2, 3, 4095, 4096} {
		hold(t, []byHand{
			{"jmp", list(to(api.Jmp, place), sys(2)), result(api.Fetch, 6, told(0), nil)},
			{"jal", list(to(api.Jal, place), sys(2)), result(api.Fetch, 6, told(0), nil)},
		})
	}
	hold(t, []byHand{{"no instruction", nil, result(api.Fetch, 4, nil, nil)}, {"one", list(nop), result(api.Fetch, 5, nil, nil)}})
	expect(t, "three cycles of none", Run(nil, 0, nil, 3), result(api.Runs, 3, nil, nil))
}

// P8.1: each operation that reckons, of any words.
func TestReckons(t *testing.T) {
	run := func(i api.Instr, b int, c int) {
		code := join(load(1, asWord(b)), load(2, asWord(c)), list(i, copied(4, 3), sys(2), sys(0)))
		want := result(api.Zero, 8, nil, nil)
		if v, ok := refReckon(i, asWord(b), asWord(c)); ok {
			want = result(api.Halted, 11, told(v), nil)
		}
		expect(t, "reckoned", Run(code, 0, nil, 99), want)
	}
	for _, b := range values() {
		for op := api.Add; op <= api.Seq; op++ {
			for _, c := range values() {
				run(three(op, 3, 1, 2), b, c)
			}
		}
		for _, imm := range []int{0, 1, -1, 77, 32767, -32768} {
			run(two(api.AddI, 3, 1, imm), b, 0)
			run(lui(3, imm), b, 0)
		}
	}
}

// P8.1: some of them by hand, as they are told.
func TestReckonsByHand(t *testing.T) {
	for _, c := range []struct{ op, b, c, want int }{
		{api.Add, greatest, 1, least}, {api.Sub, least, 1, greatest}, {api.Mul, 65536, 32768, least}, {api.Mul, 65536, 65536, 0},
		{api.Div, -7, 2, -3}, {api.Div, least, -1, least}, {api.Mod, -7, 2, -1}, {api.Mod, least, -1, 0},
		{api.And, 12, 10, 8}, {api.Or, least, greatest, -1}, {api.Slt, least, greatest, 1}, {api.Slt, 4, 4, 0},
		{api.Seq, 4, 4, 1}, {api.Seq, 4, -4, 0},
	} {
		code := join(load(1, c.b), load(2, c.c), list(three(c.op, 4, 1, 2), sys(2), sys(0)))
		expect(t, "by hand", Run(code, 0, nil, 99), result(api.Halted, 10, told(c.want), nil))
	}
}

// P8.1: the input is brought round, in order, up to its last number; one more
// stops.
func TestInput(t *testing.T) {
	in := values()
	loop := list(sys(1), to(api.Jmp, 0), sys(2))
	var want []int
	for _, v := range in {
		want = append(want, asWord(v))
	}
	for n := range in {
		expect(t, "input", Run(loop, 0, in[:n], 999), result(api.NoInput, 3*n+4, want[:n], nil))
		expect(t, "just enough", Run(loop, 0, in[:n], 3*n+3), result(api.Runs, 3*n+3, want[:n], nil))
	}
	expect(t, "input that nobody reads", Run(list(sys(0)), 0, in, 99), result(api.Halted, 4, nil, nil))
}

// P8.1: MaxOut numbers are told; one more stops, and is not.
func TestMostOutput(t *testing.T) {
	want := make([]int, api.MaxOut)
	for i := range want {
		want[i] = i + 1
	}
	loop := list(two(api.AddI, 4, 4, 1), to(api.Jmp, 0), sys(2))
	cycles := 3*api.MaxOut + 6
	for _, c := range []int{cycles, cycles + 1, 99999} {
		expect(t, "too much", Run(loop, 0, nil, c), result(api.TooMuch, cycles, want, nil))
	}
	for less := 1; less <= 3; less++ {
		expect(t, "just MaxOut", Run(loop, 0, nil, cycles-less), result(api.Runs, cycles-less, want, nil))
	}
	expect(t, "one less", Run(loop, 0, nil, cycles-4), result(api.Runs, cycles-4, want[:api.MaxOut-1], nil))
	halts := list(put(2, api.MaxOut), two(api.AddI, 4, 4, 1), two(api.Bne, 4, 2, -2), sys(2), sys(0))
	expect(t, "halts", Run(halts, 0, nil, 99999), result(api.Halted, 3*api.MaxOut+5, want, nil))
}

// P8.1: code of MaxCode instructions runs to its end; of more, nothing does.
func TestMostCode(t *testing.T) {
	code := make([]api.Instr, api.MaxCode)
	expect(t, "nops", Run(code, 0, nil, 99999), result(api.Fetch, api.MaxCode+4, nil, nil))
	code[api.MaxCode-1] = sys(0)
	expect(t, "halts", Run(code, 0, nil, 99999), result(api.Halted, api.MaxCode+3, nil, nil))
	code[0], code[1] = to(api.Jmp, api.MaxCode-1), sys(2)
	expect(t, "to the last one", Run(code, 0, nil, 99999), result(api.Halted, 6, told(0), nil))
	code[0] = to(api.Jmp, api.MaxCode)
	expect(t, "to the end", Run(code, 0, nil, 99999), result(api.Fetch, 6, told(0), nil))
	code[0] = sys(2)
	for _, more := range []int{1, 2, api.MaxCode} {
		expect(t, "too much code", Run(append(code, make([]api.Instr, more)...), 5, told(1), 99), seq.Result{})
	}
	if api.MaxOut != 10000 || api.MaxCode != 4096 || api.MaxMem != 32000 {
		t.Error("the limits are others")
	}
}

// P8.1: a memory of no cell and of MaxMem; below and above there is nothing.
func TestMemories(t *testing.T) {
	const last = api.MaxMem - 1
	expect(t, "no cell, loaded", Run(list(sys(2), lw(1, 0)), 0, nil, 99), result(api.Address, 5, told(0), nil))
	expect(t, "no cell, stored", Run(list(sys(2), sw(1, 0)), 0, nil, 99), result(api.Address, 5, told(0), nil))
	want := make([]int, api.MaxMem)
	want[last] = 6
	code := list(put(1, 6), sw(1, last), lw(4, last), nop, sys(2), lw(4, last+1))
	expect(t, "the last cell", Run(code, api.MaxMem, nil, 99), result(api.Address, 9, told(6), want))
	expect(t, "one less", Run(code, last, nil, 99), result(api.Address, 5, nil, nil))
	for _, mem := range []int{-1, -2, -api.MaxMem, least, -round, -round + 5, math.MinInt, api.MaxMem + 1, api.MaxMem + 2, greatest, round, round + 5, math.MaxInt} {
		for _, cycles := range []int{-1, 0, 3, 4, 99} {
			expect(t, "wrong memory", Run(code, mem, told(1), cycles), seq.Result{})
		}
		expect(t, "no code, wrong memory", Run(nil, mem, nil, 9), seq.Result{})
	}
}

// wrongs has instructions that are not right, of each operation and of none.
func wrongs() []api.Instr {
	var all []api.Instr
	for op := -2; op <= 66; op++ {
		for _, v := range []int{-1, 1, 31, 32, 4097, 32767, 32768, -32768, -32769, round, math.MaxInt, math.MinInt} {
			all = append(all, api.Instr{Op: op, A: v}, api.Instr{Op: op, B: v}, api.Instr{Op: op, C: v}, api.Instr{Op: op, Imm: v})
		}
		all = append(all, api.Instr{Op: op})
	}
	for _, op := range []int{math.MinInt, -round + 1, round + 1, round, math.MaxInt} {
		all = append(all, api.Instr{Op: op})
	}
	return slices.DeleteFunc(all, refRight)
}

// P8.1: instructions that are not right stop by Illegal, where they stand, in a
// slot, too, and not ahead: code that goes by them runs.
func TestWrongInstructions(t *testing.T) {
	for _, i := range wrongs() {
		expect(t, "alone", Run(list(i), 9, told(1), 99), result(api.Illegal, 4, nil, nil))
		expect(t, "behind", Run(list(put(4, 1), sys(2), i, sys(2)), 9, nil, 99), result(api.Illegal, 6, told(1), nil))
		expect(t, "in a slot", Run(list(to(api.Jmp, 2), i, sys(0)), 9, nil, 99), result(api.Illegal, 5, nil, nil))
		expect(t, "behind a late one", Run(list(lw(1, 0), i), 9, nil, 99), result(api.Illegal, 5, nil, nil))
		expect(t, "not reached", Run(list(to(api.Jmp, 3), sys(2), i, sys(0)), 9, nil, 99), result(api.Halted, 6, told(0), nil))
		expect(t, "not yet", Run(list(i), 9, nil, 3), result(api.Runs, 3, nil, nil))
	}
}

// P8.2: with more cycles it does the same, and more: the output of fewer is a
// beginning; one that stopped does no more.
func TestMoreCycles(t *testing.T) {
	in := told(9, 8, 7, 6, 5, 4, 3, 2, 1, 0)
	code := withNops(sorts())
	last := Run(code, 10, in, 0)
	for cycles := 1; cycles < 1500; cycles++ {
		now := Run(code, 10, in, cycles)
		if len(now.Out) < len(last.Out) || !slices.Equal(now.Out[:len(last.Out)], last.Out) {
			t.Fatalf("%d cycles: the output %v does not begin with %v", cycles, now.Out, last.Out)
		}
		if last.Trap != api.Runs && !same(now, last) {
			t.Fatalf("%d cycles: it stopped, and did more: %s, %s", cycles, brief(last), brief(now))
		}
		if last.Trap == api.Runs && now.Steps != cycles {
			t.Fatalf("%d cycles: there were %d", cycles, now.Steps)
		}
		last = now
	}
	if last.Trap != api.Halted {
		t.Errorf("it did not halt: %s", brief(last))
	}
}

// sorts is code of layer 7's machine that reads ten numbers, sorts them and
// tells them.
func sorts() []api.Instr {
	return list(
		put(1, 10), put(2, 0),
		sys(1), two(api.Sw, 4, 2, 0), two(api.AddI, 2, 2, 1), two(api.Bne, 2, 1, -4), // 2: read
		put(3, 0),                                                            // 6: was one turned?
		put(2, 1),                                                            // 7: from the second one on
		two(api.Lw, 5, 2, -1), two(api.Lw, 6, 2, 0), three(api.Slt, 7, 6, 5), // 8
		two(api.Beq, 7, 0, 3), two(api.Sw, 6, 2, -1), two(api.Sw, 5, 2, 0), put(3, 1),
		two(api.AddI, 2, 2, 1), two(api.Bne, 2, 1, -9), two(api.Bne, 3, 0, -12),
		put(2, 0), two(api.Lw, 4, 2, 0), sys(2), two(api.AddI, 2, 2, 1), two(api.Bne, 2, 1, -4), sys(0),
	)
}

// waits: does a Nop stand behind it: does it go, or is it late?
func waits(i api.Instr) bool {
	return refRight(i) && (i.Op >= api.Beq && i.Op <= api.Jr || i.Op == api.Lw || i.Op == api.Sys && i.Imm == 1)
}

// withNops is code with a Nop behind each instruction that goes, or is late,
// whose places are told anew; those outside stay so.
func withNops(code []api.Instr) []api.Instr {
	places := []int{0}
	for at, i := range code {
		places = append(places, places[at]+1)
		if waits(i) {
			places[at+1]++
		}
	}
	anew := func(place int) int {
		if place < 0 {
			return place
		}
		if place > len(code) {
			return places[len(code)] + place - len(code)
		}
		return places[place]
	}
	var all []api.Instr
	for at, i := range code {
		switch i.Op {
		case api.Beq, api.Bne:
			i.Imm = anew(at+1+i.Imm) - (places[at] + 1)
		case api.Jmp, api.Jal:
			i.Imm = anew(i.Imm)
		}
		all = append(all, i)
		if waits(i) {
			all = append(all, nop)
		}
	}
	return all
}

// alike holds code with Nops on this machine against the code on layer 7's: it
// stops so, too, with the same output and cells; and while layer 7's runs, what
// either told of fewer instructions is a beginning of what the other one told.
func alike(t *testing.T, code []api.Instr, size int, in []int, fuel int) seq.Result {
	t.Helper()
	one := seq.Run(code, size, in, fuel)
	other := Run(withNops(code), size, in, 2*fuel+3)
	begins := len(one.Out) <= len(other.Out) && slices.Equal(one.Out, other.Out[:len(one.Out)])
	stops := one.Trap == other.Trap && slices.Equal(one.Out, other.Out) && slices.Equal(one.Mem, other.Mem)
	if !begins || one.Trap != api.Runs && !stops {
		t.Fatalf("%v, %d cells, input %v: %s, want as %s", code, size, in, brief(other), brief(one))
	}
	if fewer := Run(withNops(code), size, in, fuel+3); len(fewer.Out) > len(one.Out) || !slices.Equal(fewer.Out, one.Out[:len(fewer.Out)]) {
		t.Fatalf("%v, %d cells, input %v: %s, want a beginning of %s", code, size, in, brief(fewer), brief(one))
	}
	return one
}

// P8.2: code that sorts, with Nops, does what layer 7's does, when all goes
// well and when it stops ahead.
func TestSortsWithNops(t *testing.T) {
	in := told(5, -3, greatest, 0, least, 7, 7, 12, -round-8, 1)
	want := told(least, -8, -3, 0, 1, 5, 7, 7, 12, greatest)
	r := Run(withNops(sorts()), 10, in, 9999)
	if r.Trap != api.Halted || !slices.Equal(r.Out, want) || !slices.Equal(r.Mem, want) {
		t.Errorf("sorted: %s, want %v", brief(r), want)
	}
	for size := range 11 {
		for n := range 11 {
			alike(t, sorts(), size, in[:n], 2000)
		}
	}
	agree(t, withNops(sorts()), 10, in, 700)
}

// P8.2: a factorial that calls itself, with a stack in memory, told by both
// machines. Links are stored, so cells are not the same.
func TestCallsItselfWithNops(t *testing.T) {
	code := list(
		put(29, 100), sys(1), to(api.Jal, 5), sys(2), sys(0),
		two(api.Bne, 4, 0, 2), put(4, 1), jr(31), // 5: of 0 it is 1
		two(api.AddI, 29, 29, -2), two(api.Sw, 31, 29, 0), two(api.Sw, 4, 29, 1),
		two(api.AddI, 4, 4, -1), to(api.Jal, 5),
		two(api.Lw, 31, 29, 0), two(api.Lw, 5, 29, 1), two(api.AddI, 29, 29, 2),
		three(api.Mul, 4, 4, 5), jr(31),
	)
	for n, want := range []int{1, 1, 2, 6, 24, 120, 720, 5040, 40320, 362880, 3628800, 39916800, 479001600, 1932053504} {
		for name, r := range map[string]seq.Result{"seq": seq.Run(code, 100, told(n), 9999), "pipe": Run(withNops(code), 100, told(n), 9999)} {
			if r.Trap != api.Halted || !slices.Equal(r.Out, told(want)) {
				t.Errorf("%s of %d: %s, want %d", name, n, brief(r), want)
			}
		}
	}
	if r := Run(withNops(code), 100, told(-1), 9999); r.Trap != api.Address || r.Out != nil {
		t.Errorf("without end: %s", brief(r))
	}
	agree(t, withNops(code), 100, told(4), 120)
}

// P8.2: each instruction of few, alone and behind each other one, with Nops.
func TestShortCodeWithNops(t *testing.T) {
	all := slices.DeleteFunc(few(), func(i api.Instr) bool { return i.C == 31 || i.Op == api.Jr && i.A != 31 })
	for _, a := range all {
		for _, b := range all {
			for _, c := range all {
				alike(t, list(put(1, 1), a, b, c, sys(2)), 2, told(round+1, -1), 30)
			}
		}
	}
}

// P8.2: much code of any instructions, with Nops, against layer 7's; a link is
// only gone by, as what it is told as hangs on the Nops.
func TestMuchCodeWithNops(t *testing.T) {
	r, in := &turns{11}, values()
	stopped := make([]int, 32)
	for range 20000 {
		code := anyCode(r, 1+r.below(24), 0, 1, 2, 3, 4, 5, 30)
		for at, i := range code {
			if i.Op == api.Jr {
				code[at].A = 31
			}
		}
		from := r.below(len(in))
		stopped[alike(t, code, r.below(12), in[from:], 60).Trap]++
	}
	for trap := api.Runs; trap <= api.Illegal; trap++ {
		if stopped[trap] == 0 {
			t.Errorf("nothing stopped by %d", trap)
		}
	}
}

// P8.2: code without any that goes or is late takes three cycles more than it
// takes layer 7's steps.
func TestThreeCyclesMore(t *testing.T) {
	code := join(load(1, 1000000007), load(2, -77), list(three(api.Mod, 3, 1, 2), sw(3, 1), copied(4, 3), sys(2), three(api.Mul, 4, 1, 2), sys(2), sys(0)))
	for fuel := range 20 {
		want := seq.Run(code, 3, nil, fuel)
		want.Steps += 3
		expect(t, "three more", Run(code, 3, nil, fuel+3), want)
	}
}

// R1, R4: code and input stay as they were, and what is told is new memory:
// the same call tells the same, whatever was written into an answer.
func TestNewMemory(t *testing.T) {
	in := told(5, round+3, least, 1, 2, 3, 4, 9, 8, 7)
	code := withNops(sorts())
	keptIn, keptCode := slices.Clone(in), slices.Clone(code)
	first := Run(code, 10, in, 9999)
	second := Run(code, 10, in, 9999)
	expect(t, "again", second, first)
	for i := range first.Out {
		first.Out[i], first.Mem[i] = -50, -60
	}
	_ = append(append(first.Out, 1), first.Mem...)
	if !slices.Equal(in, keptIn) || !slices.Equal(code, keptCode) {
		t.Error("what was handed in is turned")
	}
	expect(t, "once more", Run(code, 10, in, 9999), second)
	if slices.Contains(first.Out, -60) || slices.Contains(first.Mem, -50) {
		t.Error("Out and Mem share memory")
	}
}

// R1: input with room behind it is not written into.
func TestInputHasRoom(t *testing.T) {
	whole := told(1, 2, 3, 4, 5)
	Run(list(sys(1), to(api.Jmp, 0), sys(2)), 0, whole[:2], 99)
	if !slices.Equal(whole, told(1, 2, 3, 4, 5)) {
		t.Errorf("the input is turned: %v", whole)
	}
}

// R5: lists that are nil and lists that are empty are the same.
func TestEmptyLists(t *testing.T) {
	for cycles := range 6 {
		expect(t, "code", Run([]api.Instr{}, 2, nil, cycles), Run(nil, 2, nil, cycles))
		expect(t, "input", Run(list(sys(1)), 2, []int{}, cycles), Run(list(sys(1)), 2, nil, cycles))
	}
}
