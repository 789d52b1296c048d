package reorg

import (
	"math"
	"slices"
	"strconv"
	"strings"
	"testing"

	"delayslot/api"
	"delayslot/block"
	"delayslot/isa"
	"delayslot/text"
)

// Short forms, so that code in tests reads as code.

var nop, wrong = api.Instr{}, api.Instr{Op: 22}

func three(op int, a int, b int, c int) api.Instr { return api.Instr{Op: op, A: a, B: b, C: c} }
func two(op int, a int, b int, imm int) api.Instr { return api.Instr{Op: op, A: a, B: b, Imm: imm} }
func to(op int, place int) api.Instr              { return api.Instr{Op: op, Imm: place} }
func add(a int, b int, c int) api.Instr           { return three(api.Add, a, b, c) }
func addi(a int, b int, more int) api.Instr       { return two(api.AddI, a, b, more) }
func lw(a int, b int) api.Instr                   { return two(api.Lw, a, b, 0) }
func beq(more int) api.Instr                      { return two(api.Beq, 1, 2, more) }
func bne(more int) api.Instr                      { return two(api.Bne, 1, 2, more) }
func jmp(place int) api.Instr                     { return to(api.Jmp, place) }
func jal(place int) api.Instr                     { return to(api.Jal, place) }
func jr(a int) api.Instr                          { return api.Instr{Op: api.Jr, A: a} }
func sys(call int) api.Instr                      { return to(api.Sys, call) }
func list(i ...api.Instr) []api.Instr             { return i }
func all(n ...int) []int                          { return n }
func many(n int, i api.Instr) []api.Instr         { return slices.Clip(slices.Repeat(list(i), n)) }

// parse: code as people write it, one instruction behind the other.
func parse(s string) []api.Instr {
	var code []api.Instr
	for part := range strings.SplitSeq(s, "; ") {
		i, ok := text.Parse(part)
		if !ok {
			panic("no instruction: " + part)
		}
		code = append(code, i)
	}
	return code
}

// made is code, the new code, and the new places.
type made struct {
	name       string
	code, want []api.Instr
	places     []int
}

// holds what is made of code, and the reference, against hands.
func holds(t *testing.T, made []made) {
	t.Helper()
	for _, c := range made {
		anew, places, e := Reorg(c.code)
		if e != api.OK || !slices.Equal(anew, c.want) || !slices.Equal(places, c.places) {
			t.Errorf("%s: %s, %v, error %d; want %s, %v", c.name, text.Listing(anew), places, e, text.Listing(c.want), c.places)
		}
		if got, places, e := refReorg(c.code); e != api.OK || !slices.Equal(got, c.want) || !slices.Equal(places, c.places) {
			t.Errorf("%s: the reference %s, %v, error %d", c.name, text.Listing(got), places, e)
		}
		agree(t, c.name, c.code)
	}
}

// P13.1: the chapter's example.
func TestExample(t *testing.T) {
	holds(t, []made{{"example", parse("addi r4,r0,7; jmp 2"), parse("jmp 2; addi r4,r0,7"), all(0, 2)}})
}

// P13.1: of no instruction there is no head, and the end is 0.
func TestNothing(t *testing.T) {
	holds(t, []made{{"nil", nil, nil, all(0)}, {"empty", list(), nil, all(0)}})
}

// P13.1: Nops alone stay as they are, up to the most that there may be.
func TestNops(t *testing.T) {
	for _, n := range []int{1, 2, 3, 100, api.MaxCode - 1, api.MaxCode} {
		anew, places, e := Reorg(many(n, nop))
		if e != api.OK || !slices.Equal(anew, many(n, nop)) || !slices.Equal(places, all(0, n)) {
			t.Errorf("%d Nops: %d, places %v, error %d", n, len(anew), places, e)
		}
	}
}

// P13.1: blocks of one instruction, alone.
func TestAlone(t *testing.T) {
	for _, i := range stayers() {
		holds(t, []made{{"it stays", list(i), list(i), all(0, 1)}})
	}
	holds(t, []made{
		{"a Lw", parse("lw r1,r2,3"), parse("lw r1,r2,3; nop"), all(0, 2)},
		{"a number read", parse("sys 1"), parse("sys 1; nop"), all(0, 2)},
		{"beq to itself", parse("beq r1,r2,-1"), parse("beq r1,r2,-1; nop"), all(0, 2)},
		{"beq to the end", parse("beq r1,r2,0"), parse("beq r1,r2,1; nop"), all(0, 2)},
		{"bne to itself", parse("bne r1,r2,-1"), parse("bne r1,r2,-1; nop"), all(0, 2)},
		{"bne to the end", parse("bne r1,r2,0"), parse("bne r1,r2,1; nop"), all(0, 2)},
		{"jmp to itself", parse("jmp 0"), parse("jmp 0; nop"), all(0, 2)},
		{"jmp to the end", parse("jmp 1"), parse("jmp 2; nop"), all(0, 2)},
		{"jal to itself", parse("jal 0"), parse("jal 0; nop"), all(0, 2)},
		{"jal to the end", parse("jal 1"), parse("jal 2; nop"), all(0, 2)},
		{"jr", parse("jr r31"), parse("jr r31; nop"), all(0, 2)},
		{"jr of another register", parse("jr r5"), parse("jr r5; nop"), all(0, 2)},
	})
}

// stayers has one of each operation that neither goes nor is late.
func stayers() []api.Instr {
	l := list(nop, addi(1, 2, 3), to(api.Lui, 7), two(api.Sw, 1, 2, 3), two(api.Check, 1, 2, 3), sys(0), sys(2))
	for op := api.Add; op <= api.Seq; op++ {
		l = append(l, three(op, 1, 2, 3))
	}
	return l
}

// P13.1: several blocks of one instruction each.
func TestBlocksOfOne(t *testing.T) {
	holds(t, []made{
		{"all go", parse("jr r31; jmp 1; jal 0; beq r0,r0,-4; bne r1,r0,-3"),
			parse("jr r31; nop; jmp 2; nop; jal 0; nop; beq r0,r0,-7; nop; bne r1,r0,-5; nop"), all(0, 2, 4, 6, 8, 10)},
		{"each is gone to", parse("addi r1,r0,1; lw r2,r0,0; sys 1; jmp 1; jmp 2; jmp 3; jmp 0"),
			parse("addi r1,r0,1; lw r2,r0,0; nop; sys 1; nop; jmp 1; nop; jmp 3; nop; jmp 5; nop; jmp 0; nop"), all(0, 1, 3, 5, 7, 9, 11, 13)},
		{"each to the next one", parse("jmp 1; jal 2; beq r1,r2,0; bne r1,r2,0"),
			parse("jmp 2; nop; jal 4; nop; beq r1,r2,1; nop; bne r1,r2,1; nop"), all(0, 2, 4, 6, 8)},
		{"each to itself", parse("jmp 0; jal 1; beq r1,r2,-1; bne r1,r2,-1"),
			parse("jmp 0; nop; jal 2; nop; beq r1,r2,-1; nop; bne r1,r2,-1; nop"), all(0, 2, 4, 6, 8)},
		{"each to the end", parse("jmp 4; jal 4; beq r1,r2,1; bne r1,r2,0"),
			parse("jmp 8; nop; jal 8; nop; beq r1,r2,3; nop; bne r1,r2,1; nop"), all(0, 2, 4, 6, 8)},
		{"each to the beginning", parse("jmp 0; jal 0; beq r1,r2,-3; bne r1,r2,-4"),
			parse("jmp 0; nop; jal 0; nop; beq r1,r2,-5; nop; bne r1,r2,-7; nop"), all(0, 2, 4, 6, 8)},
	})
}

// P13.1: longer blocks: what waits, what fills a slot, and what is told anew;
// and a Beq and a Bne whose old numbers are the new ones.
func TestLongerBlocks(t *testing.T) {
	holds(t, []made{
		{"a loop, told as it was", parse("addi r1,r0,3; addi r1,r1,-1; bne r1,r0,-2; sys 0"),
			parse("addi r1,r0,3; addi r1,r1,-1; bne r1,r0,-2; nop; sys 0"), all(0, 1, 4, 5)},
		{"a loop whose slot is filled", parse("addi r1,r1,-1; sw r2,r0,0; bne r1,r0,-3; sys 0"),
			parse("addi r1,r1,-1; bne r1,r0,-2; sw r2,r0,0; sys 0"), all(0, 3, 4)},
		{"over one that fills", parse("addi r1,r1,-1; sw r2,r0,0; beq r1,r0,1; sys 0; sys 2"),
			parse("addi r1,r1,-1; beq r1,r0,2; sw r2,r0,0; sys 0; sys 2"), all(0, 3, 4, 5)},
		{"forwards, told as it was", parse("beq r1,r2,2; addi r3,r0,1; jmp 0; sys 0"),
			parse("beq r1,r2,3; nop; jmp 0; addi r3,r0,1; sys 0"), all(0, 2, 4, 5)},
		{"over as many, told as it was", parse("lui r5,1; beq r1,r2,1; sys 0; sys 2"),
			parse("beq r1,r2,2; lui r5,1; sys 0; sys 2"), all(0, 2, 3, 4)},
		{"an address waits", parse("lw r1,r0,0; add r4,r1,r1; sys 2; jmp 0"),
			parse("lw r1,r0,0; nop; add r4,r1,r1; jmp 0; sys 2"), all(0, 5)},
		{"one between", parse("lw r1,r0,0; add r4,r1,r1; addi r3,r0,1; jmp 0"),
			parse("lw r1,r0,0; addi r3,r0,1; jmp 0; add r4,r1,r1"), all(0, 4)},
		{"late and asked", parse("lw r1,r0,0; beq r1,r0,-2"), parse("lw r1,r0,0; nop; beq r1,r0,-3; nop"), all(0, 4)},
		{"a late one at the end of a block", parse("lw r1,r0,0; add r1,r1,r1; jmp 1"),
			parse("lw r1,r0,0; nop; jmp 2; add r1,r1,r1"), all(0, 2, 4)},
		{"a link is loaded", parse("lw r31,r29,0; addi r29,r29,1; jr r31"), parse("lw r31,r29,0; addi r29,r29,1; jr r31; nop"), all(0, 4)},
		{"a link is loaded, two between", parse("lw r31,r29,0; addi r29,r29,1; addi r4,r0,1; jr r31"),
			parse("lw r31,r29,0; addi r29,r29,1; jr r31; addi r4,r0,1"), all(0, 4)},
		{"a call, with its argument", parse("addi r4,r0,7; jal 3; sys 0; sys 2; jr r31"),
			parse("jal 3; addi r4,r0,7; sys 0; jr r31; sys 2"), all(0, 2, 3, 5)},
		{"what waits moves all behind it", parse("lw r1,r0,0; jmp 4; lw r2,r0,0; jr r31; bne r1,r2,-3; jmp 2; jmp 0; jal 8"),
			parse("lw r1,r0,0; jmp 6; nop; lw r2,r0,0; jr r31; nop; bne r1,r2,-4; nop; jmp 3; nop; jmp 0; nop; jal 14; nop"),
			all(0, 3, 6, 8, 10, 12, 14)},
	})
}

// P13.1: each that names a place, to each place of one and the same code: ahead
// of it, itself, behind it, and the end.
func TestEachPlace(t *testing.T) {
	was := parse("lw r1,r2,0; nop; lw r3,r4,0; jr r31; nop")
	for place, c := range []struct {
		at, anew int // its own new place, and the one to which it goes
		want     string
		places   []int
	}{
		{1, 0, "lw r1,r2,0; nop; nop; lw r3,r4,0; jr r31; nop; nop", all(0, 3, 6, 7)},
		{2, 2, "lw r1,r2,0; nop; nop; nop; lw r3,r4,0; jr r31; nop; nop", all(0, 2, 4, 7, 8)},
		{1, 3, "lw r1,r2,0; nop; nop; lw r3,r4,0; jr r31; nop; nop", all(0, 3, 6, 7)},
		{1, 5, "lw r1,r2,0; nop; nop; lw r3,r4,0; nop; jr r31; nop; nop", all(0, 3, 5, 7, 8)},
		{1, 6, "lw r1,r2,0; nop; nop; lw r3,r4,0; jr r31; nop; nop", all(0, 3, 6, 7)},
		{1, 7, "lw r1,r2,0; nop; nop; lw r3,r4,0; jr r31; nop; nop", all(0, 3, 6, 7)},
	} {
		for _, op := range []int{api.Jmp, api.Jal} {
			code, want := slices.Clone(was), parse(c.want)
			code[1], want[c.at] = to(op, place), to(op, c.anew)
			holds(t, []made{{"to a place", code, want, c.places}})
		}
		for _, op := range []int{api.Beq, api.Bne} {
			code, want := slices.Clone(was), parse(c.want)
			code[1], want[c.at] = two(op, 5, 6, place-2), two(op, 5, 6, c.anew-c.at-1)
			holds(t, []made{{"by so many", code, want, c.places}})
		}
	}
}

// P13.1: numbers that are places of none are told as they were.
func TestNumbersThatAreNoPlaces(t *testing.T) {
	holds(t, []made{{"numbers", parse("lw r1,r0,1; jmp 3; nop; sw r1,r0,2; check r1,r3,2; addi r2,r0,3; lui r3,2; jr r31"),
		parse("lw r1,r0,1; jmp 4; nop; nop; sw r1,r0,2; check r1,r3,2; addi r2,r0,3; jr r31; lui r3,2"), all(0, 3, 4, 9)}})
}

// P13.1: exactly as many instructions as there may be, one more, and many more:
// because of slots, of what waits, and of what is late at the end of a block.
func TestLong(t *testing.T) {
	half := half()
	chain := many(half-1, lw(1, 1))
	for _, c := range []struct {
		name string
		code []api.Instr
		long int
	}{
		{"of jr", many(half, jr(31)), api.MaxCode},
		{"of jr, and one", append(many(half, jr(31)), nop), api.MaxCode + 1},
		{"of jr, but one", append(many(half-1, jr(31)), nop), api.MaxCode - 1},
		{"of jr, but one, and two", append(many(half-1, jr(31)), nop, nop), api.MaxCode},
		{"of jr, one more", many(half+1, jr(31)), api.MaxCode + 2},
		{"of jr alone", many(api.MaxCode, jr(31)), 2 * api.MaxCode},
		{"of jmp", many(half, jmp(0)), api.MaxCode},
		{"of jmp to their end", many(half, jmp(half)), api.MaxCode},
		{"of jal, and one", append(many(half, jal(half)), nop), api.MaxCode + 1},
		{"of beq", many(half, beq(0)), api.MaxCode},
		{"of bne, and one", append(list(nop, nop), many(half, bne(0))...), api.MaxCode + 1},
		{"of bne alone", many(api.MaxCode, bne(0)), 2 * api.MaxCode},
		{"of what waits", append(chain, nop, nop), api.MaxCode - 2},
		{"of what waits, filled", append(chain, many(half+1, nop)...), api.MaxCode},
		{"of what waits, as much", append(chain, lw(1, 1)), api.MaxCode},
		{"of what waits, and reads at the end", append(chain, lw(1, 1), add(1, 1, 1)), api.MaxCode + 1},
		{"of what waits alone", many(api.MaxCode, lw(1, 1)), 2 * api.MaxCode},
		{"as it was", append(many(api.MaxCode-1, nop), jmp(0)), api.MaxCode},
		{"as it was, of blocks", slices.Repeat(list(nop, jmp(0)), half), api.MaxCode},
		{"one slot more", append(list(jmp(0)), many(api.MaxCode-1, nop)...), api.MaxCode + 1},
		{"one slot", append(list(jmp(0)), many(api.MaxCode-2, nop)...), api.MaxCode},
		{"one late at the end", append(many(api.MaxCode-2, addi(1, 1, 1)), lw(1, 1)), api.MaxCode},
		{"one late at the end more", append(many(api.MaxCode-1, addi(1, 1, 1)), lw(1, 1)), api.MaxCode + 1},
	} {
		anew, places, e := Reorg(c.code)
		if c.long <= api.MaxCode {
			if e != api.OK || len(anew) != c.long || places[len(places)-1] != c.long {
				t.Errorf("%s: %d instructions, error %d, want %d", c.name, len(anew), e, c.long)
			}
		} else if e != api.ErrLong {
			t.Errorf("%s: error %d, want %d instructions", c.name, e, c.long)
		}
		follows(t, c.name, c.code, anew, places, e)
	}
}

// P13.1: what is too long, and has a number that would not be right, is too
// long; what is not fit is neither.
func TestSeveralErrors(t *testing.T) {
	for _, c := range []struct {
		name string
		code []api.Instr
		want api.Errno
	}{
		{"beyond all code, alone", many(api.MaxCode, jmp(api.MaxCode)), api.ErrLong},
		{"beyond all code, by a call", append(many(api.MaxCode-1, jr(31)), jal(api.MaxCode)), api.ErrLong},
		{"beyond all code, once", append(many(half()+1, jr(31)), jmp(half()+1)), api.ErrLong},
		{"not right, and too long", append(many(api.MaxCode-1, jr(31)), wrong), api.ErrArg},
		{"behind the end, and too long", append(many(api.MaxCode-1, jmp(0)), beq(1)), api.ErrArg},
		{"below 0, and too long", append(list(beq(-2)), many(api.MaxCode-1, jmp(0))...), api.ErrArg},
		{"too many, and too long", many(api.MaxCode+1, jr(31)), api.ErrArg},
		{"too many, and beyond all code", many(api.MaxCode+1, jmp(api.MaxCode)), api.ErrArg},
	} {
		fails(t, c.name, c.code, c.want)
	}
}

// half is how many blocks of one that goes are as much code as there may be.
func half() int { return api.MaxCode / 2 }

// fails: of code there is an error, and nothing beside it, the code as it was.
func fails(t *testing.T, name string, code []api.Instr, want api.Errno) {
	t.Helper()
	given := slices.Clone(code)
	anew, places, e := Reorg(code)
	if e != want || len(anew) != 0 || len(places) != 0 {
		t.Errorf("%s: %v, %v, error %d, want %d", name, brief(anew), brief(places), e, want)
	}
	if !slices.Equal(code, given) {
		t.Errorf("%s: the code was turned", name)
	}
}

// P13.1: as far as one may go, forwards and backwards, in the most code that
// there may be, and in the new one.
func TestFarthest(t *testing.T) {
	const most = api.MaxCode
	for _, c := range []struct {
		name string
		code []api.Instr
		at   int
		want api.Instr
	}{
		{"beq to the end", append(list(beq(most-2)), many(most-2, nop)...), 0, beq(most - 1)},
		{"bne to the end", append(list(bne(most-2)), many(most-2, nop)...), 0, bne(most - 1)},
		{"jmp to the end", append(list(jmp(most-1)), many(most-2, nop)...), 0, jmp(most)},
		{"jal to the end", append(list(jal(most-1)), many(most-2, nop)...), 0, jal(most)},
		{"jmp to the end, as it was", append(many(most-1, nop), jmp(most)), most - 2, jmp(most)},
		{"jal to the end, as it was", append(many(most-1, nop), jal(most)), most - 2, jal(most)},
		{"beq to the beginning", append(many(most-1, nop), beq(-most)), most - 2, beq(1 - most)},
		{"bne to the beginning", append(many(most-1, nop), bne(-most)), most - 2, bne(1 - most)},
		{"bne to the beginning, over what does not fill", append(many(most-2, addi(1, 1, 1)), bne(1-most)), most - 2, bne(1 - most)},
		{"over as many slots as there may be", append(list(beq(half()-1)), many(half()-1, jr(31))...), 0, beq(most - 1)},
		{"back over as many", append(many(half()-1, jr(31)), bne(-half())), most - 2, bne(1 - most)},
	} {
		anew, places, e := Reorg(c.code)
		if e != api.OK || len(anew) != most || anew[c.at] != c.want {
			t.Errorf("%s: %d, error %d", c.name, len(anew), e)
			continue
		}
		follows(t, c.name, c.code, anew, places, e)
	}
}

// P13.1: numbers that are just right anew, and one above, or below. As code
// that is too long has an error ahead of that, no code has such numbers: what
// tells anew is asked.
func TestNumbersJustRight(t *testing.T) {
	for _, c := range []struct {
		i         api.Instr
		at, place int
		imm       int
		right     bool
	}{
		{beq(6), 0, 32768, 32767, true}, {beq(6), 0, 32769, 32768, false}, {beq(6), 100, 32868, 32767, true}, {beq(6), 100, 32869, 32768, false},
		{bne(6), 0, 32768, 32767, true}, {bne(6), 0, 32769, 32768, false}, {bne(6), 9, 32777, 32767, true}, {bne(6), 9, 32778, 32768, false},
		{beq(6), 32767, 0, -32768, true}, {beq(6), 32768, 0, -32769, false}, {bne(6), 32767, 0, -32768, true}, {bne(6), 32768, 0, -32769, false},
		{beq(6), 40000, 7232, -32769, false}, {beq(6), 40000, 7233, -32768, true}, {beq(6), 7, 8, 0, true}, {beq(6), 7, 14, 6, true},
		{jmp(10), 0, 4096, 4096, true}, {jmp(10), 0, 4097, 4097, false}, {jal(10), 5000, 4096, 4096, true}, {jal(10), 5000, 4097, 4097, false},
		{jmp(10), 8, 0, 0, true}, {jal(10), 8, 0, 0, true}, {jr(31), 8, 9, 0, true}, {sys(2), 8, 9, 2, true}, {two(api.Check, 1, 2, 10), 8, 9, 10, true},
	} {
		told := teller(map[int]int{10: c.place})(c.i, 3, c.at)
		want := c.i
		want.Imm = c.imm
		if told != want || isa.Right(told) != c.right {
			t.Errorf("%+v at %d, to %d: %+v", c.i, c.at, c.place, told)
		}
	}
}

// P13.1: a number that would not be right has an error of its own, wherever it
// stands; where there is too much code as well, that comes first.
func TestRangeBehindLong(t *testing.T) {
	const most = api.MaxCode
	for _, c := range []struct {
		name  string
		code  []api.Instr
		place int
		want  api.Errno
	}{
		{"right", list(jmp(5)), most, api.OK},
		{"not right", list(jmp(5)), most + 1, api.ErrRange},
		{"not right, last", append(many(most-1, nop), jmp(5)), most + 1, api.ErrRange},
		{"not right, first", append(list(jal(5)), many(most-1, nop)...), most + 1, api.ErrRange},
		{"not right, among others", append(list(nop, jr(31), jmp(5)), many(9, nop)...), most + 1, api.ErrRange},
		{"not right, of none that names it", many(most, nop), most + 1, api.OK},
		{"beq, just right", list(nop, beq(4)), 32769, api.OK},
		{"beq, one above", list(nop, beq(4)), 32770, api.ErrRange},
		{"bne, just right", list(bne(4)), 32768, api.OK},
		{"bne, one above", list(bne(4)), 32769, api.ErrRange},
		{"right, and too long", append(many(most, nop), jmp(5)), most, api.ErrLong},
		{"not right, and too long", append(many(most, nop), jmp(5)), most + 1, api.ErrLong},
		{"not right, first, and too long", append(list(jmp(5)), many(most, nop)...), most + 1, api.ErrLong},
	} {
		w := &layout{code: c.code, stood: make([]int, len(c.code)), moved: map[int]int{5: c.place}}
		if e := w.tellAnew(); e != c.want {
			t.Errorf("%s: error %d, want %d", c.name, e, c.want)
		}
	}
}

// wrongs has instructions that are not right: operations that are none,
// registers that are none, a part that the operation has not, numbers beyond
// the bounds.
func wrongs() []api.Instr {
	l := list(wrong, to(-1, 0), to(21, 1), to(math.MaxInt, 0), to(math.MinInt, 0), to(1<<32+17, 0), to(api.Nop, 1), three(api.Nop, 1, 0, 0),
		jmp(-1), jmp(4097), jal(-1), jal(4097), jmp(math.MinInt), jal(math.MaxInt), jmp(1<<32), three(api.Jmp, 1, 0, 0), three(api.Jal, 31, 0, 0),
		beq(32768), beq(-32769), bne(32768), bne(-32769), beq(math.MaxInt), bne(math.MinInt), three(api.Beq, 1, 2, 3), three(api.Bne, 32, 2, 0),
		jr(-1), jr(32), api.Instr{Op: api.Jr, A: 31, Imm: 1}, three(api.Jr, 31, 31, 0), three(api.Jr, 31, 0, 31),
		sys(3), sys(-1), three(api.Sys, 4, 0, 0), two(api.Check, 0, 0, -1), two(api.Check, 0, 32, 0), two(api.Lw, 32, 0, 0), two(api.Lw, 0, -1, 0),
		two(api.Lw, 1, 2, 32768), two(api.Sw, 1, 2, -32769), two(api.Lui, 0, 1, 0), addi(1, 2, 32768), addi(-1, 0, 0), three(api.AddI, 1, 2, 3))
	for op := api.Add; op <= api.Seq; op++ {
		l = append(l, three(op, 32, 0, 0), three(op, 0, 32, 0), three(op, 0, 0, 32), api.Instr{Op: op, A: 1, B: 2, C: 3, Imm: 1})
	}
	return l
}

// P13.1: code that is not fit, as an instruction is not right, wherever it
// stands.
func TestNotRight(t *testing.T) {
	for _, i := range wrongs() {
		fails(t, "alone", list(i), api.ErrArg)
		fails(t, "first", list(i, addi(4, 0, 7), jmp(2)), api.ErrArg)
		fails(t, "in the midst", list(addi(4, 0, 7), i, jmp(2)), api.ErrArg)
		fails(t, "last", list(addi(4, 0, 7), jmp(2), i), api.ErrArg)
		fails(t, "behind one that is late", list(lw(4, 0), i), api.ErrArg)
		fails(t, "last of most", append(many(api.MaxCode-1, nop), i), api.ErrArg)
	}
}

// P13.1: code that is not fit, as it goes below 0 or behind the end, or is too
// much; and code beside it that is fit.
func TestOutside(t *testing.T) {
	for many := range 6 {
		for at := range many {
			for more := -9; more <= 9; more++ {
				for _, op := range []int{api.Beq, api.Bne, api.Jmp, api.Jal} {
					code := make([]api.Instr, many)
					code[at] = to(op, more)
					place := more
					if op == api.Beq || op == api.Bne {
						place = at + 1 + more
					}
					if place < 0 || place > many {
						fails(t, "outside", code, api.ErrArg)
					} else if _, _, e := Reorg(code); e != api.OK {
						t.Errorf("%+v: error %d", code, e)
					}
					agree(t, "one that goes", code)
				}
			}
		}
	}
	for _, n := range []int{api.MaxCode + 1, api.MaxCode + 2, 2 * api.MaxCode, 300000} {
		fails(t, "too many Nops", many(n, nop), api.ErrArg)
		fails(t, "too many that go", many(n, jmp(0)), api.ErrArg)
		fails(t, "too many late ones", many(n, lw(1, 1)), api.ErrArg)
		fails(t, "too many, not right", many(n, wrong), api.ErrArg)
	}
}

// each hands on all code of up to so many of these instructions.
func each(all []api.Instr, most int, tell func(code []api.Instr)) {
	var grow func(code []api.Instr)
	grow = func(code []api.Instr) {
		tell(code)
		if len(code) == most {
			return
		}
		for _, i := range all {
			grow(append(slices.Clip(code), i))
		}
	}
	grow(nil)
}

// P13.1, P13.2: all short code of one of each kind; what is strict by both
// machines.
func TestShort(t *testing.T) {
	all := list(nop, sys(0), sys(1), sys(2), addi(4, 4, 1), lw(4, 0), two(api.Sw, 4, 0, 1), jr(31), wrong, two(api.Beq, 4, 0, -3), two(api.Bne, 4, 0, 1), jmp(3), jal(2))
	stopped, running := 0, 0
	each(all, 4, func(code []api.Instr) {
		anew := agree(t, "short", code)
		if !block.Strict(code) {
			return
		}
		if same(t, "short", code, anew, 2, all4, 80) == api.Runs {
			running++
		} else {
			stopped++
		}
	})
	if stopped < 5000 || running < 300 {
		t.Errorf("%d of the codes stop, %d do not: of one kind there are too few", stopped, running)
	}
}

// all4 is an input of few numbers.
var all4 = all(5, 0, -1)

// P13.1, P13.2: all short code of those that go to each place in reach.
func TestShortThatGoes(t *testing.T) {
	all := list(nop, addi(4, 4, 1), jr(31))
	for place := range 4 {
		all = append(all, jmp(place), jal(place))
	}
	for more := -3; more <= 2; more++ {
		all = append(all, beq(more), two(api.Bne, 4, 0, more))
	}
	each(all, 3, func(code []api.Instr) {
		anew := agree(t, "short, going", code)
		if block.Strict(code) {
			same(t, "short, going", code, anew, 0, nil, 60)
		}
	})
}

// P1, P13.1: numbers of instructions at the ends of all numbers.
func TestEndsOfNumbers(t *testing.T) {
	for _, n := range []int{math.MinInt, math.MinInt + 1, math.MaxInt, math.MaxInt - 1, 1 << 32, -1 << 32, 1<<63 - 1} {
		for op := -1; op <= 22; op++ {
			fails(t, "all parts", list(nop, api.Instr{Op: op, A: n, B: n, C: n, Imm: n}), api.ErrArg)
			if op >= api.AddI && op != api.Jr {
				fails(t, "a number", list(nop, to(op, n)), api.ErrArg)
			}
		}
	}
}

// R1: code is read up to its end, whatever stands behind and ahead of it in its
// memory; nothing is written there.
func TestMemoryBeside(t *testing.T) {
	room := parse("lw r1,r0,0; jmp 2; add r2,r1,r1; sys 1; beq r1,r2,-2; nop; nop")
	given := slices.Clone(room)
	holds(t, []made{
		{"one that is late at its end", room[:1], parse("lw r1,r0,0; nop"), all(0, 2)},
		{"one that goes at its end", room[:2], parse("lw r1,r0,0; jmp 3; nop"), all(0, 3)},
		{"ahead of one that goes", room[2:4], parse("add r2,r1,r1; sys 1; nop"), all(0, 3)},
		{"from its midst", room[3:5], parse("sys 1; beq r1,r2,-2; nop"), all(0, 3)},
		{"none of it", room[7:], nil, all(0)},
		{"none at its beginning", room[:0], nil, all(0)},
	})
	fails(t, "what would go outside", room[4:5], api.ErrArg)
	fails(t, "what would go behind its end", room[1:2:2], api.ErrArg)
	if !slices.Equal(room, given) {
		t.Errorf("%+v", room)
	}
}

// R1: what is handed in may be turned behind a call, and what was answered too:
// no later answer tells of it, and neither tells of the other.
func TestNewMemory(t *testing.T) {
	code := parse("addi r1,r0,3; addi r1,r1,-1; bne r1,r0,-2; sys 0")
	given := slices.Clone(code)
	anew, places, _ := Reorg(code)
	want, wantPlaces := slices.Clone(anew), slices.Clone(places)
	for at := range code {
		code[at] = wrong
	}
	if !slices.Equal(anew, want) || !slices.Equal(places, wantPlaces) {
		t.Errorf("of code that was turned: %v, %v", anew, places)
	}
	copy(code, given)
	for at := range anew {
		anew[at] = wrong
	}
	for n := range places {
		places[n] = 9
	}
	if !slices.Equal(code, given) {
		t.Errorf("of an answer that was turned: %v", code)
	}
	holds(t, []made{{"again", code, want, wantPlaces}})
}

// R4: of code of many blocks all is told alike each time.
func TestSameAgain(t *testing.T) {
	n := numbers{5}
	code := n.fit(300)
	first, places, _ := Reorg(code)
	for range 20 {
		again, same, e := Reorg(code)
		if e != api.OK || !slices.Equal(first, again) || !slices.Equal(places, same) {
			t.Fatalf("again: error %d, places %v, and %v", e, brief(places), brief(same))
		}
	}
}

// numbers tells numbers in no order that shows, the same in each run.
type numbers struct{ state uint64 }

func (n *numbers) below(end int) int {
	n.state += 0x9e3779b97f4a7c15
	z := n.state
	z = (z ^ z>>30) * 0xbf58476d1ce4e5b9
	z = (z ^ z>>27) * 0x94d049bb133111eb
	return int(z>>33) % end
}

// fit: so many instructions, of any register, that go to any place.
func (n *numbers) fit(many int) []api.Instr {
	code := make([]api.Instr, many)
	for at := range code {
		a, b, c, place := n.below(32), n.below(32), n.below(32), n.below(many+1)
		code[at] = list(nop, lw(a, b), lw(b, c), two(api.Sw, a, b, 3), sys(n.below(3)), two(api.Lui, a, 0, 9), addi(a, b, 1), add(a, b, c),
			add(b, c, a), two(api.Check, a, b, c), three(api.Add+n.below(9), a, b, c), two(api.Beq, a, b, place-at-1), two(api.Bne, a, b, place-at-1),
			jmp(place), jal(place), jr(a), addi(c, a, -1), lw(c, a))[n.below(18)]
	}
	return code
}

// P13.1, P13.2: longer code, of few blocks and of many, strict or not; and the
// same with one instruction turned into one that is not right, or goes outside.
func TestLonger(t *testing.T) {
	n := numbers{1}
	for many := 4; many < 160; many++ {
		name := strconv.Itoa(many)
		code := n.fit(many)
		agree(t, name, code)
		for at := range code {
			if n.below(6) > 0 && deedsOf(code[at]).goes {
				code[at] = add(1+n.below(4), 1+n.below(4), 1+n.below(4))
			}
		}
		agree(t, name+", of fewer blocks", code)
		code[n.below(many)] = list(wrong, jmp(many+1), jal(many+1), beq(-many-1), bne(many))[n.below(5)]
		fails(t, name+", not fit", code, api.ErrArg)
	}
}
