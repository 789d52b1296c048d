package block

import (
	"slices"
	"strings"
	"testing"

	"delayslot/api"
)

// The reference: it asks of each place by itself whether a block begins there,
// as the chapter's words say it. What is right, where an instruction goes, and
// which registers it touches, are written out once more, so that it shares no
// way with what is tested.

// row is what the chapters tell of one operation: its parts by their letters (I
// is Imm), the bounds of Imm, the parts that are registers which it reads or
// writes, and where it goes: by so many more than its place and 1 (more), to a
// place (there), where a register says (back); nothing, if it does not go.
type row struct {
	has             string
	least, greatest int
	touches         string
	goes            string
}

// table has the operations from 0 on.
var table = []row{
	{"", 0, 0, "", ""},
	{"ABC", 0, 0, "ABC", ""},
	{"ABC", 0, 0, "ABC", ""},
	{"ABC", 0, 0, "ABC", ""},
	{"ABC", 0, 0, "ABC", ""},
	{"ABC", 0, 0, "ABC", ""},
	{"ABC", 0, 0, "ABC", ""},
	{"ABC", 0, 0, "ABC", ""},
	{"ABC", 0, 0, "ABC", ""},
	{"ABC", 0, 0, "ABC", ""},
	{"ABI", -32768, 32767, "AB", ""},
	{"AI", -32768, 32767, "A", ""},
	{"ABI", -32768, 32767, "AB", ""},
	{"ABI", -32768, 32767, "AB", ""},
	{"ABI", 0, 32767, "A", ""},
	{"ABI", -32768, 32767, "AB", "more"},
	{"ABI", -32768, 32767, "AB", "more"},
	{"I", 0, 4096, "", "there"},
	{"I", 0, 4096, "", "there"},
	{"A", 0, 0, "A", "back"},
	{"I", 0, 2, "", ""},
}

func isPart(r row, letter string, n int) bool {
	switch {
	case !strings.Contains(r.has, letter):
		return n == 0
	case letter == "I":
		return r.least <= n && n <= r.greatest
	}
	return 0 <= n && n <= 31
}

// refRow is the row of a right instruction; false, if it is not right.
func refRow(i api.Instr) (row, bool) {
	if i.Op < 0 || i.Op >= len(table) {
		return row{}, false
	}
	r := table[i.Op]
	if isPart(r, "A", i.A) && isPart(r, "B", i.B) && isPart(r, "C", i.C) && isPart(r, "I", i.Imm) {
		return r, true
	}
	return row{}, false
}

func refTarget(i api.Instr, at int) (int, bool) {
	r, _ := refRow(i)
	switch r.goes {
	case "more":
		return at + 1 + i.Imm, true
	case "there":
		return i.Imm, true
	}
	return 0, false
}

func refGoes(i api.Instr) bool {
	r, _ := refRow(i)
	return r.goes != ""
}

func refFit(code []api.Instr) bool {
	unfit := 0
	for at, i := range code {
		if _, ok := refRow(i); !ok {
			unfit++
		}
		if to, ok := refTarget(i, at); ok && to != min(max(to, 0), len(code)) {
			unfit++
		}
	}
	return len(code) < 4097 && unfit == 0
}

// refTouchesLink: does a right instruction, by its parts, touch register 31? A
// Jal, whose parts do not tell, is none that is asked of.
func refTouchesLink(i api.Instr) bool {
	r, _ := refRow(i)
	return strings.Contains(r.touches, "A") && i.A == 31 ||
		strings.Contains(r.touches, "B") && i.B == 31 ||
		strings.Contains(r.touches, "C") && i.C == 31
}

// refStrict: of fit code, is each Jr of register 31, and that touched by no
// other one but a Jal?
func refStrict(code []api.Instr) bool {
	for _, i := range code {
		if i.Op != api.Jal && refTouchesLink(i) != (i.Op == api.Jr) {
			return false
		}
	}
	return refFit(code)
}

// named tells the places to which instructions go, as often as they do.
func named(code []api.Instr) []int {
	var l []int
	for at, i := range code {
		if to, ok := refTarget(i, at); ok {
			l = append(l, to)
		}
	}
	return l
}

// refBlocks goes through fit code place by place: each one begins a block, or
// makes the last one greater.
func refBlocks(code []api.Instr) (heads []int, blocks []Block) {
	if !refFit(code) {
		return nil, nil
	}
	to := named(code)
	for at := range code {
		if at == 0 || refGoes(code[at-1]) || slices.Contains(to, at) {
			heads = append(heads, at)
			blocks = append(blocks, Block{at, at})
		}
		blocks[len(blocks)-1].To++
	}
	return heads, blocks
}

// agree holds all that is told of code against the reference, and against what
// follows (P9.3).
func agree(t *testing.T, name string, code []api.Instr) {
	t.Helper()
	given := slices.Clone(code)
	fit, strict, heads, blocks := Fit(code), Strict(code), Heads(code), Blocks(code)
	wantHeads, wantBlocks := refBlocks(given)
	if fit != refFit(given) || strict != refStrict(given) {
		t.Errorf("%s %v: fit %v, strict %v; want %v, %v", name, brief(given), fit, strict, refFit(given), refStrict(given))
	}
	if !slices.Equal(heads, wantHeads) {
		t.Errorf("%s %v: heads %v, want %v", name, brief(given), brief(heads), brief(wantHeads))
	}
	if !slices.Equal(blocks, wantBlocks) {
		t.Errorf("%s %v: blocks %v, want %v", name, brief(given), brief(blocks), brief(wantBlocks))
	}
	if !slices.Equal(code, given) {
		t.Errorf("%s %v: the code was turned", name, brief(given))
	}
	if fit {
		follows(t, name, given, heads, blocks)
	}
}

// follows holds the blocks of fit code against P9.3: they are all of it, each
// place in one, and what goes is the last one of its block; and against the
// heads, of which each begins one.
func follows(t *testing.T, name string, code []api.Instr, heads []int, blocks []Block) {
	t.Helper()
	if len(heads) != len(blocks) {
		t.Errorf("%s %v: %d heads, %d blocks", name, brief(code), len(heads), len(blocks))
		return
	}
	in := make([]int, len(code))
	for n, b := range blocks {
		if b.From != heads[n] || b.From >= b.To || b.To > len(code) {
			t.Errorf("%s %v: block %d is %v, its head %d", name, brief(code), n, b, heads[n])
			return
		}
		for at := b.From; at < b.To; at++ {
			in[at]++
			if refGoes(code[at]) && at != b.To-1 {
				t.Errorf("%s %v: what goes at %d is not the last one of %v", name, brief(code), at, b)
			}
		}
	}
	if slices.ContainsFunc(in, func(n int) bool { return n != 1 }) {
		t.Errorf("%s %v: the places stand in so many blocks: %v", name, brief(code), brief(in))
	}
}

// brief keeps lists short, so that a fault is read at a glance.
func brief[T any](l []T) []T {
	return l[:min(len(l), 8)]
}
