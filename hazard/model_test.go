package hazard

import (
	"slices"
	"strings"
	"testing"

	"delayslot/api"
)

// The reference: it tells of each place all faults that the chapter's words
// name, each by itself, and then takes the first one. What is right, what is
// read and written, what goes, or is late, are written out once more, so that
// it shares no way with what is tested.

// row is what the chapters tell of one operation: its parts by their letters (I
// is Imm), the bounds of Imm, the parts that it reads and writes, and whether
// it goes, or is late (g, l). Jal and Sys stand apart, as their parts do not say
// what they read and write.
type row struct {
	has             string
	least, greatest int
	reads, writes   string
	does            string
}

// table has the operations from 0 on.
var table = []row{
	{"", 0, 0, "", "", ""},
	{"ABC", 0, 0, "BC", "A", ""},
	{"ABC", 0, 0, "BC", "A", ""},
	{"ABC", 0, 0, "BC", "A", ""},
	{"ABC", 0, 0, "BC", "A", ""},
	{"ABC", 0, 0, "BC", "A", ""},
	{"ABC", 0, 0, "BC", "A", ""},
	{"ABC", 0, 0, "BC", "A", ""},
	{"ABC", 0, 0, "BC", "A", ""},
	{"ABC", 0, 0, "BC", "A", ""},
	{"ABI", -32768, 32767, "B", "A", ""},
	{"AI", -32768, 32767, "", "A", ""},
	{"ABI", -32768, 32767, "B", "A", "l"},
	{"ABI", -32768, 32767, "AB", "", ""},
	{"ABI", 0, 32767, "A", "", ""},
	{"ABI", -32768, 32767, "AB", "", "g"},
	{"ABI", -32768, 32767, "AB", "", "g"},
	{"I", 0, 4096, "", "", "g"},
	{"I", 0, 4096, "", "", "g"},
	{"A", 0, 0, "A", "", "g"},
	{"I", 0, 2, "", "", ""},
}

func (r row) isPart(letter string, n int) bool {
	switch {
	case !strings.Contains(r.has, letter):
		return n == 0
	case letter == "I":
		return r.least <= n && n <= r.greatest
	}
	return 0 <= n && n <= 31
}

func isRight(i api.Instr) bool {
	if i.Op < 0 || i.Op >= len(table) {
		return false
	}
	r := table[i.Op]
	return r.isPart("A", i.A) && r.isPart("B", i.B) && r.isPart("C", i.C) && r.isPart("I", i.Imm)
}

// deeds are what layer 3 tells: each register from 1 on that is read, or
// written, is marked.
type deeds struct {
	reads, writes [32]bool
	goes, late    bool
}

func mark(i api.Instr, letters string) [32]bool {
	var marks [32]bool
	for _, letter := range letters {
		marks[[]int{i.A, i.B, i.C}[letter-'A']] = true
	}
	marks[0] = false
	return marks
}

func deedsOf(i api.Instr) deeds {
	if !isRight(i) {
		return deeds{}
	}
	r := table[i.Op]
	d := deeds{
		reads:  mark(i, r.reads),
		writes: mark(i, r.writes),
		goes:   strings.Contains(r.does, "g"),
		late:   strings.Contains(r.does, "l"),
	}
	switch {
	case i.Op == 18:
		d.writes[31] = true
	case i.Op == 20 && i.Imm == 1:
		d.writes[4], d.late = true, true
	case i.Op == 20 && i.Imm == 2:
		d.reads[4] = true
	}
	return d
}

// meet: is a register marked in both?
func meet(a [32]bool, b [32]bool) bool {
	for reg := 1; reg < 32; reg++ {
		if a[reg] && b[reg] {
			return true
		}
	}
	return false
}

// refFaults: all faults of a place, rising.
func refFaults(code []api.Instr, at int) []int {
	var faults []int
	does := deedsOf(code[at])
	var ahead, behind deeds
	if at > 0 {
		ahead = deedsOf(code[at-1])
	}
	last := at == len(code)-1
	if !last {
		behind = deedsOf(code[at+1])
	}
	if !isRight(code[at]) {
		faults = append(faults, 1)
	}
	if does.goes && (last || behind.goes) {
		faults = append(faults, 2)
	}
	if does.late && ahead.goes {
		faults = append(faults, 3)
	}
	if does.late && !ahead.goes && meet(does.writes, behind.reads) {
		faults = append(faults, 4)
	}
	return faults
}

// refAll: the fault of each place.
func refAll(code []api.Instr) []int {
	all := make([]int, len(code))
	for at := range code {
		if faults := refFaults(code, at); len(faults) > 0 {
			all[at] = faults[0]
		}
	}
	return all
}

// agree holds what is told of code against the reference, and against what
// follows.
func agree(t *testing.T, name string, code []api.Instr) {
	t.Helper()
	tells(t, name, code, refAll(code))
	if Safe(code) {
		follows(t, name, code)
	}
}

// tells: are these the faults of the places of code, and does nothing else hold
// of the first one, of whether it is safe, and of places that there are not?
func tells(t *testing.T, name string, code []api.Instr, want []int) {
	t.Helper()
	given := slices.Clone(code)
	for at, fault := range want {
		if got := At(code, at); got != fault {
			t.Errorf("%s %+v: the fault %d at %d, want %d", name, brief(given), got, at, fault)
		}
	}
	for _, at := range []int{-1, len(code), len(code) + 1} {
		if got := At(code, at); got != 0 {
			t.Errorf("%s %+v: the fault %d at %d, where nothing stands", name, brief(given), got, at)
		}
	}
	wantAt, wantFault := firstOf(want)
	if at, fault := First(code); at != wantAt || fault != wantFault {
		t.Errorf("%s %+v: first %d, %d, want %d, %d", name, brief(given), at, fault, wantAt, wantFault)
	}
	if got := Safe(code); got != (wantFault == 0) {
		t.Errorf("%s %+v: safe: %t", name, brief(given), got)
	}
	if !slices.Equal(code, given) {
		t.Errorf("%s %+v: the code was turned", name, brief(given))
	}
}

// firstOf: the first place of faults that has one, and it.
func firstOf(faults []int) (int, int) {
	for at, fault := range faults {
		if fault != 0 {
			return at, fault
		}
	}
	return -1, 0
}

// follows: P12.2 of safe code, and what else the words bring with them: all of
// it is right, its last one does not go, nothing late stands in a slot.
func follows(t *testing.T, name string, code []api.Instr) {
	t.Helper()
	for at, i := range code {
		does := deedsOf(i)
		if !isRight(i) || does.goes && (at == len(code)-1 || deedsOf(code[at+1]).goes) {
			t.Errorf("%s %+v: safe, with its place %d", name, brief(code), at)
		}
		if at > 0 && does.late && deedsOf(code[at-1]).goes {
			t.Errorf("%s %+v: safe, with a late one in the slot %d", name, brief(code), at)
		}
	}
}

// brief keeps code short, so that a fault is read at a glance.
func brief[T any](l []T) []T {
	return l[:min(len(l), 8)]
}
