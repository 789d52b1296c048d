package reorg

import (
	"cmp"
	"slices"
	"strings"
	"testing"

	"delayslot/api"
	"delayslot/block"
	"delayslot/hazard"
	"delayslot/pipe"
	"delayslot/seq"
)

// The reference: it asks of each place whether a block begins there, lays each
// block place by place, and tells what goes anew, as the chapters' words say it.
// What is right, what is read and written, what acts, goes, or is late, and how
// far that must stay ahead, are written out once more, so that it shares no way
// with what is tested.

// row is what the chapters tell of one operation: its parts by their letters (I
// is Imm), the bounds of Imm, the parts that it reads and writes, and whether
// it acts, goes, or is late (a, g, l). Jal and Sys stand apart, as their parts
// do not say what they read and write.
type row struct {
	has             string
	least, greatest int
	reads, writes   string
	does            string
}

// table has the operations from 0 on.
var table = []row{
	{"", 0, 0, "", "", ""},
	{"ABC", 0, 0, "BC", "A", ""},
	{"ABC", 0, 0, "BC", "A", ""},
	{"ABC", 0, 0, "BC", "A", ""},
	{"ABC", 0, 0, "BC", "A", "a"},
	{"ABC", 0, 0, "BC", "A", "a"},
	{"ABC", 0, 0, "BC", "A", ""},
	{"ABC", 0, 0, "BC", "A", ""},
	{"ABC", 0, 0, "BC", "A", ""},
	{"ABC", 0, 0, "BC", "A", ""},
	{"ABI", -32768, 32767, "B", "A", ""},
	{"AI", -32768, 32767, "", "A", ""},
	{"ABI", -32768, 32767, "B", "A", "al"},
	{"ABI", -32768, 32767, "AB", "", "a"},
	{"ABI", 0, 32767, "A", "", "a"},
	{"ABI", -32768, 32767, "AB", "", "g"},
	{"ABI", -32768, 32767, "AB", "", "g"},
	{"I", 0, 4096, "", "", "g"},
	{"I", 0, 4096, "", "", "g"},
	{"A", 0, 0, "A", "", "g"},
	{"I", 0, 2, "", "", "a"},
}

func (r row) isPart(letter string, n int) bool {
	switch {
	case !strings.Contains(r.has, letter):
		return n == 0
	case letter == "I":
		return r.least <= n && n <= r.greatest
	}
	return 0 <= n && n <= 31
}

func isRight(i api.Instr) bool {
	if i.Op < 0 || i.Op >= len(table) {
		return false
	}
	r := table[i.Op]
	return r.isPart("A", i.A) && r.isPart("B", i.B) && r.isPart("C", i.C) && r.isPart("I", i.Imm)
}

// deeds are what layer 3 tells: each register from 1 on that is read, or
// written, is marked.
type deeds struct {
	reads, writes    [32]bool
	acts, goes, late bool
}

func mark(i api.Instr, letters string) [32]bool {
	var marks [32]bool
	for _, letter := range letters {
		marks[map[rune]int{'A': i.A, 'B': i.B, 'C': i.C}[letter]] = true
	}
	marks[0] = false
	return marks
}

func deedsOf(i api.Instr) deeds {
	if !isRight(i) {
		return deeds{}
	}
	r := table[i.Op]
	d := deeds{
		reads:  mark(i, r.reads),
		writes: mark(i, r.writes),
		acts:   strings.Contains(r.does, "a"),
		goes:   strings.Contains(r.does, "g"),
		late:   strings.Contains(r.does, "l"),
	}
	switch {
	case i.Op == 18:
		d.writes[31] = true
	case i.Op == 20 && i.Imm == 1:
		d.writes[4], d.late = true, true
	case i.Op == 20 && i.Imm == 2:
		d.reads[4] = true
	}
	return d
}

// meet: is a register marked in both?
func meet(a [32]bool, b [32]bool) bool {
	for reg := 1; reg < 32; reg++ {
		if a[reg] && b[reg] {
			return true
		}
	}
	return false
}

// farDeeds: how far what does these must stay ahead of what does those.
func farDeeds(a deeds, b deeds) int {
	if a.late && meet(a.writes, b.reads) {
		return 2
	}
	if meet(a.writes, b.reads) || meet(a.writes, b.writes) || meet(a.reads, b.writes) || a.acts && b.acts {
		return 1
	}
	return 0
}

// fars tells of each two of a list how far the former must stay ahead.
func fars(l []api.Instr) [][]int {
	did := make([]deeds, len(l))
	for at, i := range l {
		did[at] = deedsOf(i)
	}
	all := make([][]int, len(l))
	for a := range l {
		all[a] = make([]int, len(l))
		for b := a + 1; b < len(l); b++ {
			all[a][b] = farDeeds(did[a], did[b])
		}
	}
	return all
}

// refHeights goes back through a list, and asks each later one.
func refHeights(far [][]int) []int {
	heights := make([]int, len(far))
	for a := len(far) - 1; a >= 0; a-- {
		for b := a + 1; b < len(far); b++ {
			if far[a][b] > 0 {
				heights[a] = max(heights[a], far[a][b]+heights[b])
			}
		}
	}
	return heights
}

// mayStandAt: may b stand at a place, by where those that stand (others: -1) do?
func mayStandAt(far [][]int, stands []int, b int, place int) bool {
	for a := range b {
		if far[a][b] > 0 && (stands[a] < 0 || stands[a]+far[a][b] > place) {
			return false
		}
	}
	return true
}

// refOrder asks at each place of all that do not stand yet.
func refOrder(far [][]int) []int {
	heights := refHeights(far)
	stands := slices.Repeat([]int{-1}, len(far))
	var order []int
	for slices.Contains(stands, -1) {
		best := -1
		for b := range far {
			if stands[b] < 0 && mayStandAt(far, stands, b, len(order)) && (best < 0 || heights[b] > heights[best]) {
				best = b
			}
		}
		if best >= 0 {
			stands[best] = len(order)
		}
		order = append(order, best)
	}
	return order
}

// enough: are all others far enough ahead of the last instruction, if that
// stands at a place, and one of them (-1: none) is left out?
func enough(far [][]int, order []int, place int, without int) bool {
	last := len(far) - 1
	for p, a := range order {
		if a >= 0 && a != without && far[a][last] > 0 && p+far[a][last] > place {
			return false
		}
	}
	return true
}

// refLay goes by the chapter's words, one after the other.
func refLay(l []api.Instr) []int {
	far := fars(l)
	last := len(l) - 1
	if last < 0 || !deedsOf(l[last]).goes {
		order := refOrder(far)
		if last >= 0 && deedsOf(l[order[len(order)-1]]).late {
			order = append(order, -1)
		}
		return order
	}
	order := refOrder(fars(l[:last]))
	for !enough(far, order, len(order), -1) {
		order = append(order, -1)
	}
	end := len(order) - 1
	if end < 0 || order[end] < 0 {
		return append(order, last, -1)
	}
	filler := order[end]
	if deedsOf(l[filler]).late || far[filler][last] > 0 || !enough(far, order, end, filler) {
		return append(order, last, -1)
	}
	return append(order[:end:end], last, filler)
}

// refTarget: where a right instruction that names a place goes.
func refTarget(i api.Instr, at int) (int, bool) {
	switch {
	case !isRight(i):
	case i.Op == 15 || i.Op == 16:
		return at + 1 + i.Imm, true
	case i.Op == 17 || i.Op == 18:
		return i.Imm, true
	}
	return 0, false
}

func refFit(code []api.Instr) bool {
	unfit := 0
	for at, i := range code {
		if to, ok := refTarget(i, at); !isRight(i) || ok && (to < 0 || to > len(code)) {
			unfit++
		}
	}
	return len(code) < 4097 && unfit == 0
}

// begins tells of each place of code whether a block begins there; of its end,
// too, where none does, so that each one ends where the next one begins.
func begins(code []api.Instr) []bool {
	marks := make([]bool, len(code)+1)
	marks[0], marks[len(code)] = true, true
	for at, i := range code {
		if to, ok := refTarget(i, at); ok {
			marks[to] = true
		}
		if deedsOf(i).goes {
			marks[at+1] = true
		}
	}
	return marks
}

// cuts are the places where blocks begin, and the end.
func cuts(code []api.Instr) []int {
	var l []int
	for at, begins := range begins(code) {
		if begins {
			l = append(l, at)
		}
	}
	return l
}

// refReorg lays block by block, and writes down of each instruction where it
// goes, in old places, ahead of any new one.
func refReorg(code []api.Instr) ([]api.Instr, []int, api.Errno) {
	if !refFit(code) {
		return nil, nil, 1
	}
	var anew []api.Instr
	var goes []int
	all := cuts(code)
	places := []int{0}
	for n := 1; n < len(all); n++ {
		from := all[n-1]
		for _, at := range refLay(code[from:all[n]]) {
			i, to := api.Instr{}, -1
			if at >= 0 {
				i = code[from+at]
				to, _ = refTarget(i, from+at)
			}
			anew, goes = append(anew, i), append(goes, to)
		}
		places = append(places, len(anew))
	}
	if len(anew) >= 4097 {
		return nil, nil, 4
	}
	for at := range anew {
		if _, ok := refTarget(anew[at], 0); ok {
			anew[at].Imm = places[slices.Index(all, goes[at])]
			if anew[at].Op < 17 {
				anew[at].Imm -= at + 1
			}
		}
		if !isRight(anew[at]) {
			return nil, nil, 3
		}
	}
	return anew, places, 0
}

// agree holds what is told of code against the reference, and against what
// follows; it answers the new code.
func agree(t *testing.T, name string, code []api.Instr) []api.Instr {
	t.Helper()
	given := slices.Clone(code)
	want, wantPlaces, wantErr := refReorg(given)
	anew, places, e := Reorg(code)
	if e != wantErr || !slices.Equal(places, wantPlaces) {
		t.Errorf("%s %v: places %v, error %d; want %v, %d", name, brief(given), brief(places), e, brief(wantPlaces), wantErr)
	}
	if !slices.Equal(anew, want) {
		t.Errorf("%s %v: %v, want %v", name, brief(given), brief(anew), brief(want))
	}
	if !slices.Equal(code, given) {
		t.Errorf("%s %v: the code was turned", name, brief(given))
	}
	follows(t, name, given, anew, places, e)
	return anew
}

// follows: P13.2 but for the machines; and nothing beside an error.
func follows(t *testing.T, name string, code, anew []api.Instr, places []int, e api.Errno) {
	t.Helper()
	if e != api.OK {
		if len(anew) != 0 || len(places) != 0 {
			t.Errorf("%s %v: %v, %v beside the error %d", name, brief(code), brief(anew), brief(places), e)
		}
		return
	}
	if !block.Fit(anew) || !hazard.Safe(anew) {
		t.Errorf("%s %v: %v is fit: %t, safe: %t", name, brief(code), brief(anew), block.Fit(anew), hazard.Safe(anew))
	}
	all := cuts(code)
	if len(places) != len(all) || !slices.IsSorted(places) || places[len(places)-1] != len(anew) {
		t.Errorf("%s %v: places %v of the blocks %v", name, brief(code), brief(places), brief(all))
		return
	}
	for n := 1; n < len(all); n++ {
		was, is := code[all[n-1]:all[n]], anew[places[n-1]:places[n]]
		if !slices.Equal(content(was), content(is)) || len(is) < len(was) {
			t.Errorf("%s: a block of %v became %v", name, brief(was), brief(is))
		}
	}
}

// content: all of a block but its Nops, in an order of its own, without the
// places to which they go, as these may be told anew.
func content(l []api.Instr) []api.Instr {
	var all []api.Instr
	for _, i := range l {
		if deedsOf(i).goes {
			i.Imm = 0
		}
		if i.Op != 0 {
			all = append(all, i)
		}
	}
	slices.SortFunc(all, func(x, y api.Instr) int {
		return cmp.Or(x.Op-y.Op, x.A-y.A, x.B-y.B, x.C-y.C, x.Imm-y.Imm)
	})
	return all
}

// same runs strict code by the one machine, for so many steps, and the new code
// by the other one: if the one stops, the other one stops so, too. A block that
// is laid takes at most three times as many cycles, but for the last one, of
// which the former machine may have done one instruction, and the latter all. It
// answers what stopped both.
func same(t *testing.T, name string, code, anew []api.Instr, mem int, in []int, steps int) int {
	t.Helper()
	if !block.Strict(code) {
		t.Fatalf("%s %v: not strict", name, brief(code))
	}
	one := seq.Run(code, mem, in, steps)
	if one.Trap == api.Runs {
		stillRuns(t, name, code, anew, mem, in, steps)
		return api.Runs
	}
	other := pipe.Run(anew, mem, in, 3*one.Steps+2*len(code)+9)
	if one.Trap != other.Trap || !slices.Equal(one.Out, other.Out) || !slices.Equal(one.Mem, other.Mem) {
		t.Errorf("%s %v, input %v: %d, %v, %v by the one; %d, %v, %v by the other one", name, brief(code), brief(in),
			one.Trap, brief(one.Out), brief(one.Mem), other.Trap, brief(other.Out), brief(other.Mem))
	}
	return one.Trap
}

// stillRuns: of code that the one machine does not stop in so many steps, nor
// does the other one in as many cycles, but for those of its last block; and
// what it tells is a beginning of what the former one does.
func stillRuns(t *testing.T, name string, code, anew []api.Instr, mem int, in []int, steps int) {
	t.Helper()
	one := seq.Run(code, mem, in, steps)
	other := pipe.Run(anew, mem, in, steps-len(code))
	if other.Trap != api.Runs || len(other.Out) > len(one.Out) || !slices.Equal(other.Out, one.Out[:len(other.Out)]) {
		t.Errorf("%s %v, input %v: %v by the one, that runs still; %d, %v by the other one", name, brief(code), brief(in),
			brief(one.Out), other.Trap, brief(other.Out))
	}
}

// brief keeps lists short, so that a fault is read at a glance.
func brief[T any](l []T) []T {
	return l[:min(len(l), 12)]
}
