package sched

import (
	"slices"
	"strings"
	"testing"

	"delayslot/api"
)

// The reference: it goes place by place, and asks at each of all instructions,
// and of all ahead of each, as the chapter's words say it. What is right, what
// is read and written, what acts, goes, or is late, and how far that must stay
// ahead, are written out once more, so that it shares no way with what is
// tested.

// row is what the chapters tell of one operation: its parts by their letters (I
// is Imm), the bounds of Imm, the parts that it reads and writes, and whether
// it acts, goes, or is late (a, g, l). Jal and Sys stand apart, as their parts do not say
// what they read and write.
type row struct {
	has             string
	least, greatest int
	reads, writes   string
	does            string
}

// table has the operations from 0 on.
var table = []row{
	{"", 0, 0, "", "", ""},
	{"ABC", 0, 0, "BC", "A", ""},
	{"ABC", 0, 0, "BC", "A", ""},
	{"ABC", 0, 0, "BC", "A", ""},
	{"ABC", 0, 0, "BC", "A", "a"},
	{"ABC", 0, 0, "BC", "A", "a"},
	{"ABC", 0, 0, "BC", "A", ""},
	{"ABC", 0, 0, "BC", "A", ""},
	{"ABC", 0, 0, "BC", "A", ""},
	{"ABC", 0, 0, "BC", "A", ""},
	{"ABI", -32768, 32767, "B", "A", ""},
	{"AI", -32768, 32767, "", "A", ""},
	{"ABI", -32768, 32767, "B", "A", "al"},
	{"ABI", -32768, 32767, "AB", "", "a"},
	{"ABI", 0, 32767, "A", "", "a"},
	{"ABI", -32768, 32767, "AB", "", "g"},
	{"ABI", -32768, 32767, "AB", "", "g"},
	{"I", 0, 4096, "", "", "g"},
	{"I", 0, 4096, "", "", "g"},
	{"A", 0, 0, "A", "", "g"},
	{"I", 0, 2, "", "", "a"},
}

func (r row) isPart(letter string, n int) bool {
	switch {
	case !strings.Contains(r.has, letter):
		return n == 0
	case letter == "I":
		return r.least <= n && n <= r.greatest
	}
	return 0 <= n && n <= 31
}

func isRight(i api.Instr) bool {
	if i.Op < 0 || i.Op >= len(table) {
		return false
	}
	r := table[i.Op]
	return r.isPart("A", i.A) && r.isPart("B", i.B) && r.isPart("C", i.C) && r.isPart("I", i.Imm)
}

// deeds are what layer 3 tells: each register from 1 on that is read, or
// written, is marked.
type deeds struct {
	reads, writes    [32]bool
	acts, goes, late bool
}

func mark(i api.Instr, letters string) [32]bool {
	var marks [32]bool
	for _, letter := range letters {
		marks[map[rune]int{'A': i.A, 'B': i.B, 'C': i.C}[letter]] = true
	}
	marks[0] = false
	return marks
}

func deedsOf(i api.Instr) deeds {
	if !isRight(i) {
		return deeds{}
	}
	r := table[i.Op]
	d := deeds{
		reads:  mark(i, r.reads),
		writes: mark(i, r.writes),
		acts:   strings.Contains(r.does, "a"),
		goes:   strings.Contains(r.does, "g"),
		late:   strings.Contains(r.does, "l"),
	}
	switch {
	case i.Op == 18:
		d.writes[31] = true
	case i.Op == 20 && i.Imm == 1:
		d.writes[4], d.late = true, true
	case i.Op == 20 && i.Imm == 2:
		d.reads[4] = true
	}
	return d
}

// meet: is a register marked in both?
func meet(a [32]bool, b [32]bool) bool {
	for reg := 1; reg < 32; reg++ {
		if a[reg] && b[reg] {
			return true
		}
	}
	return false
}

// farDeeds: how far what does these must stay ahead of what does those.
func farDeeds(a deeds, b deeds) int {
	if a.late && meet(a.writes, b.reads) {
		return 2
	}
	if meet(a.writes, b.reads) || meet(a.writes, b.writes) || meet(a.reads, b.writes) || a.acts && b.acts {
		return 1
	}
	return 0
}

// fars tells of each two of a list how far the former must stay ahead.
func fars(l []api.Instr) [][]int {
	did := make([]deeds, len(l))
	for at, i := range l {
		did[at] = deedsOf(i)
	}
	all := make([][]int, len(l))
	for a := range l {
		all[a] = make([]int, len(l))
		for b := a + 1; b < len(l); b++ {
			all[a][b] = farDeeds(did[a], did[b])
		}
	}
	return all
}

// refHeights goes back through a list, and asks each later one.
func refHeights(far [][]int) []int {
	heights := make([]int, len(far))
	for a := len(far) - 1; a >= 0; a-- {
		for b := a + 1; b < len(far); b++ {
			if far[a][b] > 0 {
				heights[a] = max(heights[a], far[a][b]+heights[b])
			}
		}
	}
	return heights
}

// mayStandAt: may b stand at a place, by where those that stand (others: -1) do?
func mayStandAt(far [][]int, stands []int, b int, place int) bool {
	for a := range b {
		if far[a][b] > 0 && (stands[a] < 0 || stands[a]+far[a][b] > place) {
			return false
		}
	}
	return true
}

// refOrder asks at each place of all that do not stand yet.
func refOrder(far [][]int) []int {
	heights := refHeights(far)
	stands := slices.Repeat([]int{-1}, len(far))
	var order []int
	for slices.Contains(stands, -1) {
		best := -1
		for b := range far {
			if stands[b] < 0 && mayStandAt(far, stands, b, len(order)) && (best < 0 || heights[b] > heights[best]) {
				best = b
			}
		}
		if best >= 0 {
			stands[best] = len(order)
		}
		order = append(order, best)
	}
	return order
}

// enough: are all others far enough ahead of the last instruction, if that
// stands at a place, and one of them (-1: none) is left out?
func enough(far [][]int, order []int, place int, without int) bool {
	last := len(far) - 1
	for p, a := range order {
		if a >= 0 && a != without && far[a][last] > 0 && p+far[a][last] > place {
			return false
		}
	}
	return true
}

// refLay goes by the chapter's words, one after the other.
func refLay(l []api.Instr) []int {
	far := fars(l)
	last := len(l) - 1
	if last < 0 || !deedsOf(l[last]).goes {
		order := refOrder(far)
		if last >= 0 && deedsOf(l[order[len(order)-1]]).late {
			order = append(order, -1)
		}
		return order
	}
	order := refOrder(fars(l[:last]))
	for !enough(far, order, len(order), -1) {
		order = append(order, -1)
	}
	end := len(order) - 1
	if end < 0 || order[end] < 0 {
		return append(order, last, -1)
	}
	filler := order[end]
	if deedsOf(l[filler]).late || far[filler][last] > 0 || !enough(far, order, end, filler) {
		return append(order, last, -1)
	}
	return append(order[:end:end], last, filler)
}

// refKeeps looks for each place in the order, and then at each two of them.
func refKeeps(far [][]int, order []int) bool {
	rest := slices.DeleteFunc(slices.Clone(order), func(n int) bool { return n == -1 })
	slices.Sort(rest)
	for n, at := range rest {
		if n != at {
			return false
		}
	}
	if len(rest) != len(far) {
		return false
	}
	place := make([]int, len(far))
	for p, at := range order {
		if at >= 0 {
			place[at] = p
		}
	}
	for b := range far {
		for a := range b {
			if far[a][b] > 0 && place[a]+far[a][b] > place[b] {
				return false
			}
		}
	}
	return true
}

// agree holds the order of a list, and what is laid of it, against the
// reference, and both against what follows.
func agree(t *testing.T, name string, l []api.Instr) {
	t.Helper()
	given := slices.Clone(l)
	far := fars(given)
	got, want := Order(l), refOrder(far)
	if !slices.Equal(got, want) {
		t.Errorf("%s %+v: order %v, want %v", name, brief(given), brief(got), brief(want))
	}
	follows(t, name, given, far, got)
	got, want = Lay(l), refLay(given)
	if !slices.Equal(got, want) {
		t.Errorf("%s %+v: laid %v, want %v", name, brief(given), brief(got), brief(want))
	}
	followsLaid(t, name, given, far, got)
	if !slices.Equal(l, given) {
		t.Errorf("%s %+v: the list was turned", name, brief(given))
	}
}

// follows: P11.2 of an order.
func follows(t *testing.T, name string, l []api.Instr, far [][]int, order []int) {
	t.Helper()
	if !refKeeps(far, order) {
		t.Errorf("%s %+v: order %v does not keep", name, brief(l), brief(order))
	}
	for p, at := range order {
		if at == -1 && (p == len(order)-1 || order[p+1] == -1) {
			t.Errorf("%s %+v: order %v has -1 at its place %d, and behind it or at its end", name, brief(l), brief(order), p)
			break
		}
	}
	if many := len(l); len(order) > max(0, 2*many-1) {
		t.Errorf("%s %+v: an order of %d places for %d", name, brief(l), len(order), many)
	}
}

// followsLaid: P11.2 of what is laid, and what else the words bring with them:
// all stand, once, and those ahead of the last one keep; what goes is at the
// end but for its slot.
func followsLaid(t *testing.T, name string, l []api.Instr, far [][]int, laid []int) {
	t.Helper()
	if many := len(l); len(laid) > 2*many+1 {
		t.Errorf("%s %+v: %d places are laid for %d", name, brief(l), len(laid), many)
	}
	if !refKeeps(far, laid) {
		t.Errorf("%s %+v: what is laid as %v does not keep", name, brief(l), brief(laid))
	}
	last := len(l) - 1
	if last < 0 {
		return
	}
	if deedsOf(l[last]).goes {
		if slices.Index(laid, last) != len(laid)-2 {
			t.Errorf("%s %+v: laid %v: not one slot behind the last one", name, brief(l), brief(laid))
		}
		return
	}
	if at := laid[len(laid)-1]; at >= 0 && deedsOf(l[at]).late {
		t.Errorf("%s %+v: laid %v: a late one is at the end", name, brief(l), brief(laid))
	}
}

// brief keeps lists short, so that a fault is read at a glance.
func brief[T any](l []T) []T {
	return l[:min(len(l), 8)]
}
