package depend

import (
	"slices"
	"strings"
	"testing"

	"delayslot/api"
)

// The reference: it asks of each two instructions by themselves, as the
// chapter's words say it. What is right, what is read and written, what acts,
// and what is late, are written out once more, so that it shares no way with
// what is tested.

// row is what the chapters tell of one operation: its parts by their letters (I
// is Imm), the bounds of Imm, the parts that it reads and writes, and whether
// it acts or is late (a, l). Jal and Sys stand apart, as their parts do not say
// what they read and write.
type row struct {
	has             string
	least, greatest int
	reads, writes   string
	does            string
}

// table has the operations from 0 on.
var table = []row{
	{"", 0, 0, "", "", ""},
	{"ABC", 0, 0, "BC", "A", ""},
	{"ABC", 0, 0, "BC", "A", ""},
	{"ABC", 0, 0, "BC", "A", ""},
	{"ABC", 0, 0, "BC", "A", "a"},
	{"ABC", 0, 0, "BC", "A", "a"},
	{"ABC", 0, 0, "BC", "A", ""},
	{"ABC", 0, 0, "BC", "A", ""},
	{"ABC", 0, 0, "BC", "A", ""},
	{"ABC", 0, 0, "BC", "A", ""},
	{"ABI", -32768, 32767, "B", "A", ""},
	{"AI", -32768, 32767, "", "A", ""},
	{"ABI", -32768, 32767, "B", "A", "al"},
	{"ABI", -32768, 32767, "AB", "", "a"},
	{"ABI", 0, 32767, "A", "", "a"},
	{"ABI", -32768, 32767, "AB", "", ""},
	{"ABI", -32768, 32767, "AB", "", ""},
	{"I", 0, 4096, "", "", ""},
	{"I", 0, 4096, "", "", ""},
	{"A", 0, 0, "A", "", ""},
	{"I", 0, 2, "", "", "a"},
}

func (r row) isPart(letter string, n int) bool {
	switch {
	case !strings.Contains(r.has, letter):
		return n == 0
	case letter == "I":
		return r.least <= n && n <= r.greatest
	}
	return 0 <= n && n <= 31
}

func isRight(i api.Instr) bool {
	if i.Op < 0 || i.Op >= len(table) {
		return false
	}
	r := table[i.Op]
	return r.isPart("A", i.A) && r.isPart("B", i.B) && r.isPart("C", i.C) && r.isPart("I", i.Imm)
}

// deeds are what layer 3 tells: each register from 1 on that is read, or
// written, is marked.
type deeds struct {
	reads, writes [32]bool
	acts, late    bool
}

func mark(i api.Instr, letters string) [32]bool {
	var marks [32]bool
	for _, letter := range letters {
		marks[map[rune]int{'A': i.A, 'B': i.B, 'C': i.C}[letter]] = true
	}
	marks[0] = false
	return marks
}

func deedsOf(i api.Instr) deeds {
	if !isRight(i) {
		return deeds{}
	}
	r := table[i.Op]
	d := deeds{mark(i, r.reads), mark(i, r.writes), strings.Contains(r.does, "a"), strings.Contains(r.does, "l")}
	switch {
	case i.Op == 18:
		d.writes[31] = true
	case i.Op == 20 && i.Imm == 1:
		d.writes[4], d.late = true, true
	case i.Op == 20 && i.Imm == 2:
		d.reads[4] = true
	}
	return d
}

// meet: is a register marked in both?
func meet(a [32]bool, b [32]bool) bool {
	for reg := 1; reg < 32; reg++ {
		if a[reg] && b[reg] {
			return true
		}
	}
	return false
}

// farDeeds: how far what does these must stay ahead of what does those.
func farDeeds(a deeds, b deeds) int {
	if a.late && meet(a.writes, b.reads) {
		return 2
	}
	if meet(a.writes, b.reads) || meet(a.writes, b.writes) || meet(a.reads, b.writes) || a.acts && b.acts {
		return 1
	}
	return 0
}

func refFar(a api.Instr, b api.Instr) int { return farDeeds(deedsOf(a), deedsOf(b)) }

// fars tells of each two of a list how far the former must stay ahead.
func fars(l []api.Instr) [][]int {
	did := make([]deeds, len(l))
	for at, i := range l {
		did[at] = deedsOf(i)
	}
	all := make([][]int, len(l))
	for a := range l {
		all[a] = make([]int, len(l))
		for b := a + 1; b < len(l); b++ {
			all[a][b] = farDeeds(did[a], did[b])
		}
	}
	return all
}

// refHeights goes back through a list, and asks each later one.
func refHeights(far [][]int) []int {
	heights := make([]int, len(far))
	for a := len(far) - 1; a >= 0; a-- {
		for b := a + 1; b < len(far); b++ {
			if far[a][b] > 0 {
				heights[a] = max(heights[a], far[a][b]+heights[b])
			}
		}
	}
	return heights
}

// longest is the height of a place as the longest way from it, of all ways that
// there are: for short lists.
func longest(far [][]int, a int) int {
	most := 0
	for b := a + 1; b < len(far); b++ {
		if far[a][b] > 0 {
			most = max(most, far[a][b]+longest(far, b))
		}
	}
	return most
}

// refKeeps looks for each place in the order, and then at each two of them.
func refKeeps(far [][]int, order []int) bool {
	rest := slices.DeleteFunc(slices.Clone(order), func(n int) bool { return n == -1 })
	slices.Sort(rest)
	for n, at := range rest {
		if n != at {
			return false
		}
	}
	if len(rest) != len(far) {
		return false
	}
	place := make([]int, len(far))
	for a := range far {
		place[a] = slices.Index(order, a)
	}
	for b := range far {
		for a := range b {
			if far[a][b] > 0 && place[a]+far[a][b] > place[b] {
				return false
			}
		}
	}
	return true
}

// agree holds the heights of a list against the reference.
func agree(t *testing.T, name string, l []api.Instr) {
	t.Helper()
	given := slices.Clone(l)
	got, want := Heights(l), refHeights(fars(given))
	if !slices.Equal(got, want) {
		t.Errorf("%s %+v: heights %v, want %v", name, brief(given), brief(got), brief(want))
	}
	if !slices.Equal(l, given) {
		t.Errorf("%s %+v: the list was turned", name, brief(given))
	}
}

// agreeKeeps holds an order of a list, of which all fars are told, against the
// reference, and tells whether it keeps.
func agreeKeeps(t *testing.T, name string, l []api.Instr, far [][]int, order []int) bool {
	t.Helper()
	given, givenOrder := slices.Clone(l), slices.Clone(order)
	got, want := Keeps(l, order), refKeeps(far, givenOrder)
	if got != want {
		t.Errorf("%s %+v: order %v keeps: %v, want %v", name, brief(given), brief(givenOrder), got, want)
	}
	if !slices.Equal(l, given) || !slices.Equal(order, givenOrder) {
		t.Errorf("%s %+v: the list or its order was turned", name, brief(given))
	}
	return want
}

// brief keeps lists short, so that a fault is read at a glance.
func brief[T any](l []T) []T {
	return l[:min(len(l), 8)]
}
