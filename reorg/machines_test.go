package reorg

import (
	"slices"
	"strconv"
	"testing"

	"delayslot/api"
	"delayslot/block"
	"delayslot/hazard"
	"delayslot/seq"
)

// run is strict code, an input, and by what both machines must stop, of four
// cells, with which output and memory.
type run struct {
	name, code string
	in         []int
	trap       int
	out, mem   []int
}

// runs holds what the one machine does against hands, and the other one, with
// the new code, against it.
func runs(t *testing.T, all []run) {
	t.Helper()
	for _, c := range all {
		code := parse(c.code)
		one := seq.Run(code, 4, c.in, 9999)
		if one.Trap != c.trap || !slices.Equal(one.Out, c.out) || !slices.Equal(one.Mem, c.mem) {
			t.Errorf("%s: %d, %v, %v", c.name, one.Trap, brief(one.Out), one.Mem)
		}
		same(t, c.name, code, agree(t, c.name, code), 4, c.in, 9999)
	}
}

// P13.2: strict code that stops in each way, by each instruction that stops so;
// a Check by each number that stops, and by such as no other one does.
func TestEachStop(t *testing.T) {
	runs(t, []run{
		{"halted", "addi r4,r0,7; sys 2; sys 0; sys 2", nil, api.Halted, all(7), nil},
		{"at the end", "addi r4,r0,7; sys 2", nil, api.Fetch, all(7), nil},
		{"jmp to the end", "addi r4,r0,7; sys 2; jmp 4; sys 0", nil, api.Fetch, all(7), nil},
		{"jal to the end", "addi r4,r0,7; sys 2; jal 4; sys 0", nil, api.Fetch, all(7), nil},
		{"beq to the end", "addi r4,r0,7; sys 2; beq r0,r0,1; sys 0", nil, api.Fetch, all(7), nil},
		{"bne to the end", "addi r4,r0,7; sys 2; bne r4,r0,1; sys 0", nil, api.Fetch, all(7), nil},
		{"jr to the end", "jmp 2; jr r31; addi r4,r0,7; sys 2; jal 1", nil, api.Fetch, all(7), nil},
		{"no cell to load", "addi r1,r0,9; sw r1,r0,2; lw r2,r0,4; sys 2", nil, api.Address, nil, all(0, 0, 9)},
		{"none below 0", "sys 2; addi r1,r0,1; lw r0,r1,-2; sys 2", nil, api.Address, all(0), nil},
		{"no cell to store", "addi r1,r0,9; sw r1,r0,2; sw r1,r0,4; sys 2", nil, api.Address, nil, all(0, 0, 9)},
		{"none below 0 to store", "addi r1,r0,9; sw r1,r1,-10; sys 2", nil, api.Address, nil, nil},
		{"quotient by nought", "addi r4,r0,9; sys 2; div r1,r4,r0; sys 2", nil, api.Zero, all(9), nil},
		{"remainder by nought", "addi r4,r0,9; sw r4,r0,0; mod r0,r0,r0; sys 2", nil, api.Zero, nil, all(9)},
		{"bounds", "addi r4,r0,9; sys 2; check r4,r5,9; sys 2", nil, api.Bounds, all(9), nil},
		{"bounds, below 0", "addi r4,r0,-9; sys 2; check r4,r5,9; sys 2", nil, api.Bounds, all(-9), nil},
		{"bounds, by 0", "check r0,r0,1; check r0,r0,0; sys 2", nil, api.Bounds, nil, nil},
		{"no room", "addi r4,r0,9; sys 2; check r4,r7,3", nil, api.NoRoom, all(9), nil},
		{"by illegal's number", "sys 2; check r0,r8,0; sys 2", nil, api.Illegal, all(0), nil},
		{"by halted's number", "sys 2; check r0,r1,0; sys 2", nil, api.Halted, all(0), nil},
		{"by the greatest number", "sys 2; check r0,r31,0; sys 2", nil, 31, all(0), nil},
		{"no input", "sys 1; sys 2; sys 1; sys 2", all(5), api.NoInput, all(5), nil},
		{"no input at all", "addi r4,r0,1; sw r4,r0,1; sys 1; sys 2", nil, api.NoInput, nil, all(0, 1)},
	})
	full := slices.Concat(parse("addi r4,r0,1; lui r5,1"), parse("sys 2; addi r4,r4,1; bne r4,r5,-3"))
	if trap := same(t, "too much", full, agree(t, "too much", full), 0, nil, 60000); trap != api.TooMuch {
		t.Errorf("too much: %d", trap)
	}
}

// P13.2: what stops where the new code has it elsewhere: in a slot, behind what
// waits, and where a slot is the last one to be done.
func TestStopsElsewhere(t *testing.T) {
	runs(t, []run{
		{"halted in a slot", "addi r4,r0,7; sys 2; sys 0; jmp 0", nil, api.Halted, all(7), nil},
		{"no input in no slot", "sys 2; sys 1; jmp 0", all(3), api.NoInput, all(0, 3), nil},
		{"told in a slot, ahead of the end", "addi r4,r0,7; sys 2; jmp 3", nil, api.Fetch, all(7), nil},
		{"stored in a slot, ahead of the end", "addi r4,r0,7; sw r4,r0,1; beq r0,r0,0", nil, api.Fetch, nil, all(0, 7)},
		{"no cell, in a slot", "addi r4,r0,7; sys 2; sw r4,r0,9; jal 0", nil, api.Address, all(7), nil},
		{"by nought, in a slot", "addi r4,r0,7; sys 2; div r5,r4,r0; jmp 4", nil, api.Zero, all(7), nil},
		{"bounds, in a slot of one that stays", "addi r4,r0,7; check r4,r5,3; bne r4,r4,-3; sys 2", nil, api.Bounds, nil, nil},
		{"the former stop of two", "lw r1,r0,9; div r2,r3,r0; sys 0", nil, api.Address, nil, nil},
		{"the former stop of two, the other way", "div r2,r3,r0; lw r1,r0,9; sys 0", nil, api.Zero, nil, nil},
		{"one that nothing waits for, behind a chain", "lw r1,r0,0; lw r2,r1,0; lw r3,r2,0; sys 2; check r0,r9,0; addi r4,r0,1; sys 2", nil, 9, all(0), nil},
	})
}

// P13.2: programs that loop, call, load and store.
func TestPrograms(t *testing.T) {
	sum := "sys 1; beq r4,r0,2; add r8,r8,r4; jmp 0; add r4,r8,r0; sys 2; sys 0"
	countDown := "sys 1; sys 2; addi r4,r4,-1; bne r4,r0,-3; sys 0"
	turn := "sys 1; sw r4,r8,0; addi r8,r8,1; bne r4,r0,-4; addi r8,r8,-1; lw r4,r8,0; sys 2; bne r8,r0,-4; sys 0"
	twice := "sys 1; beq r4,r0,3; jal 6; jmp 0; nop; sys 0; add r4,r4,r4; sys 2; jr r31"
	power := "sys 1; addi r8,r0,1; beq r4,r0,3; jal 8; addi r4,r4,-1; jmp 2; add r4,r8,r0; jmp 10; add r8,r8,r8; jr r31; sys 2; sys 0"
	runs(t, []run{
		{"a sum", sum, all(3, -5, 1<<31-1, 7, 0), api.Halted, all(-1<<31 + 4), nil},
		{"a sum of nothing", sum, all(0), api.Halted, all(0), nil},
		{"a sum without end", sum, all(3, 4), api.NoInput, nil, nil},
		{"to nought", countDown, all(4), api.Halted, all(4, 3, 2, 1), nil},
		{"turned", turn, all(5, 6, 0), api.Halted, all(0, 6, 5), all(5, 6)},
		{"turned, too many", turn, all(5, 6, 7, 8, 9, 0), api.Address, nil, all(5, 6, 7, 8)},
		{"calls", twice, all(3, -4, 1<<30, 0), api.Halted, all(6, -8, -1<<31), nil},
		{"calls without end", twice, all(3), api.NoInput, all(6), nil},
		{"a power", power, all(10), api.Halted, all(1024), nil},
		{"a power of nought", power, all(0), api.Halted, all(1), nil},
		{"a power that goes round", power, all(32), api.Halted, all(0), nil},
		{"a loop without end", "addi r4,r4,1; sw r4,r0,0; jmp 0", nil, api.Runs, nil, all(3333)},
		{"back to the beginning, by a link that is 0", "sys 1; sys 2; jr r31", all(1, 2), api.NoInput, all(1, 2), nil},
	})
}

// strict: so many instructions, most of which go forwards, if they go; of few
// registers, so that many wait.
func (n *numbers) strict(many int) []api.Instr {
	code := make([]api.Instr, many)
	for at := range code {
		a, b, c, place := n.below(6), n.below(6), n.below(6), at+1+n.below(min(many-at, 9))
		if n.below(12) == 0 {
			place = n.below(many + 1)
		}
		code[at] = list(nop, two(api.Lw, a, 0, n.below(5)), two(api.Lw, a, b, n.below(3)), two(api.Sw, a, 0, n.below(5)), sys(1), sys(2), sys(2),
			addi(a, b, n.below(9)-4), addi(a, 0, n.below(4)), add(a, b, c), add(b, a, a), three(api.Add+n.below(9), a, b, c), two(api.Sw, a, b, n.below(3)),
			two(api.Check, a, n.below(10), n.below(9999)), two(api.Beq, a, b, place-at-1), two(api.Bne, a, b, place-at-1),
			jmp(place), jal(place), jr(31), two(api.Lui, a, 0, n.below(3)-1), addi(a, a, 1))[n.below(21)]
	}
	code[n.below(many)] = sys(0)
	return code
}

// P13.2: strict code of any kind by both machines, of several inputs and
// memories. Each way to stop is among these, but by what is not right.
func TestStrict(t *testing.T) {
	n := numbers{3}
	stops := make([]int, 32)
	for turn := range 3000 {
		code := n.strict(1 + turn%70)
		name := strconv.Itoa(turn)
		anew := agree(t, name, code)
		for _, in := range [][]int{nil, all(n.below(5)), all(1, 0, -1, n.below(9), 3, 2, 1<<31-1, 5, 7)} {
			stops[same(t, name, code, anew, n.below(12), in, 3000)]++
		}
	}
	for _, trap := range all(api.Runs, api.Halted, api.Fetch, api.Address, api.Zero, api.Bounds, api.NoInput, api.NoRoom) {
		if stops[trap] < 10 {
			t.Errorf("%d of the codes stop by %d: too few", stops[trap], trap)
		}
	}
}

// P13.2: as much strict code as there may be, of many blocks, of few, and of
// one.
func TestMostCode(t *testing.T) {
	n := numbers{4}
	for _, c := range []struct {
		name string
		code []api.Instr
		trap int
	}{
		{"many blocks", append(slices.Repeat(parse("addi r4,r4,1; beq r0,r0,0"), 1365), sys(2)), api.Fetch},
		{"few blocks", slices.Concat(slices.Repeat(parse("addi r4,r4,1; sw r4,r0,1; lw r1,r0,1; add r2,r2,r1"), 600), parse("sys 2; bne r4,r5,-2402; sys 0")), api.TooMuch},
		{"one block", append(slices.Repeat(parse("lw r1,r0,0; addi r1,r1,1; sw r1,r0,0; lw r2,r0,0; addi r4,r2,3; sys 2"), 400), sys(0)), api.Halted},
		{"one chain", append(slices.Repeat(parse("add r4,r4,r4; addi r4,r4,1"), 2047), sys(2), sys(0)), api.Halted},
		{"of any kind", n.strict(2000), api.Runs},
	} {
		anew, places, e := Reorg(c.code)
		if e != api.OK || !hazard.Safe(anew) || !block.Fit(anew) {
			t.Fatalf("%s: error %d, %d instructions", c.name, e, len(anew))
		}
		follows(t, c.name, c.code, anew, places, e)
		const steps = 40000000
		trap := seq.Run(c.code, 3, nil, steps).Trap
		if c.trap != api.Runs && trap != c.trap {
			t.Errorf("%s: %d", c.name, trap)
		}
		same(t, c.name, c.code, anew, 3, nil, steps)
	}
}
