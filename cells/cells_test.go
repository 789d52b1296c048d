package cells

import (
	"math"
	"slices"
	"testing"

	"delayslot/api"
)

const (
	least    = -1 << 31
	greatest = 1<<31 - 1
	round    = 1 << 32
)

// stored is a value and what it is as a word.
type stored struct{ v, want int }

// values has ordinary numbers, the ends of words, and numbers that are none;
// what they are as words is written out, not reckoned.
func values() []stored {
	return []stored{
		{0, 0}, {1, 1}, {-1, -1}, {5, 5}, {-5, -5}, {12345, 12345}, {-12345, -12345},
		{1000000007, 1000000007}, {-1000000007, -1000000007},
		{greatest - 1, greatest - 1}, {greatest, greatest}, {greatest + 1, least}, {greatest + 2, least + 1},
		{least + 1, least + 1}, {least, least}, {least - 1, greatest}, {least - 2, greatest - 1},
		{round - 1, -1}, {round, 0}, {round + 1, 1}, {round + 5, 5},
		{-round - 1, -1}, {-round, 0}, {-round + 1, 1}, {-round - 5, -5},
		{7*round + 9, 9}, {-7*round - 9, -9}, {3*round + greatest, greatest}, {-3*round + least, least},
		{0x123456789abcdef, -1985229329},
		{math.MaxInt, -1}, {math.MaxInt - 1, -2}, {math.MinInt, 0}, {math.MinInt + 1, 1},
	}
}

// outside has addresses at which a memory of n cells has none, those among
// them that are one of its own plus a multiple of 2^32.
func outside(n int) []int {
	return []int{-1, -2, -n, -n - 1, -api.MaxMem, -round, math.MinInt, math.MinInt + 1,
		n, n + 1, 2*n + 1, api.MaxMem, api.MaxMem + 1, round, round + 1, -round + 1, 1 << 62, math.MaxInt}
}

// trimmed is the reference for Used: a list without the noughts at its end.
func trimmed(l []int) []int {
	last := -1
	for i, v := range l {
		if v != 0 {
			last = i
		}
	}
	return l[:last+1]
}

// check holds every call that tells something against what there should be.
func check(t *testing.T, m *Memory, want []int) {
	t.Helper()
	if got := m.Len(); got != len(want) {
		t.Errorf("Len() = %d, want %d", got, len(want))
	}
	if got := m.Words(); !slices.Equal(got, want) {
		t.Errorf("Words() = %v, want %v", got, want)
	}
	if got := m.Used(); !slices.Equal(got, trimmed(want)) {
		t.Errorf("Used() = %v, want %v", got, trimmed(want))
	}
	for at, v := range want {
		if got, ok := m.Load(at); got != v || !ok {
			t.Errorf("Load(%d) = %d, %v, want %d, true", at, got, ok, v)
		}
	}
}

// put stores what must find a cell.
func put(t *testing.T, m *Memory, at int, v int) {
	t.Helper()
	if !m.Store(at, v) {
		t.Errorf("Store(%d, %d) = false, want true", at, v)
	}
}

// P6.1: a new memory has so many cells, each 0, from none to MaxMem.
func TestNewIsOfNoughts(t *testing.T) {
	for _, n := range []int{0, 1, 2, 3, 100, 4096, api.MaxMem - 1, api.MaxMem} {
		m := New(n)
		if m == nil {
			t.Errorf("New(%d) = nil", n)
			continue
		}
		check(t, m, make([]int, n))
	}
	if api.MaxMem != 32000 {
		t.Errorf("MaxMem = %d", api.MaxMem)
	}
}

// P6.1: there is no memory of less than no cell, nor of more than MaxMem.
func TestNewOfWrongSizes(t *testing.T) {
	for _, n := range []int{-1, -2, -api.MaxMem, least, -round, -round + 3, math.MinInt, math.MinInt + 1,
		api.MaxMem + 1, api.MaxMem + 2, 2 * api.MaxMem, greatest, 1 << 31, round, round + 3, math.MaxInt} {
		if m := New(n); m != nil {
			t.Errorf("New(%d) has %d cells, want nil", n, m.Len())
		}
	}
}

// P6.1: the chapter's example.
func TestExample(t *testing.T) {
	m := New(3)
	put(t, m, 1, 1<<32+5)
	if got := m.Words(); !slices.Equal(got, []int{0, 5, 0}) {
		t.Errorf("Words() = %v, want 0, 5, 0", got)
	}
	if got := m.Used(); !slices.Equal(got, []int{0, 5}) {
		t.Errorf("Used() = %v, want 0, 5", got)
	}
}

// P6.1: what is stored is brought round, at the first cell, one between, and
// the last one.
func TestStoreBringsRound(t *testing.T) {
	const n = 5
	for _, at := range []int{0, 2, n - 1} {
		m, want := New(n), make([]int, n)
		for _, c := range values() {
			put(t, m, at, c.v)
			want[at] = c.want
			check(t, m, want)
		}
	}
}

// P6.1, R2, R3: where there is no cell, Load and Store answer so, and nothing
// is turned.
func TestAddressesWithoutCell(t *testing.T) {
	for _, n := range []int{0, 1, 2, 7, api.MaxMem} {
		m, want := New(n), make([]int, n)
		for at := range n {
			want[at] = at%9 - 4
			put(t, m, at, want[at])
		}
		for _, at := range outside(n) {
			if at >= 0 && at < n {
				continue
			}
			if v, ok := m.Load(at); v != 0 || ok {
				t.Errorf("of %d cells: Load(%d) = %d, %v, want 0, false", n, at, v, ok)
			}
			if m.Store(at, 77) {
				t.Errorf("of %d cells: Store(%d, 77) = true, want false", n, at)
			}
		}
		check(t, m, want)
	}
}

// P6.1: a memory of no cell has nothing to tell.
func TestNoCell(t *testing.T) {
	m := New(0)
	for _, at := range []int{0, 1, -1} {
		if v, ok := m.Load(at); v != 0 || ok {
			t.Errorf("Load(%d) = %d, %v, want 0, false", at, v, ok)
		}
		if m.Store(at, 3) {
			t.Errorf("Store(%d, 3) = true, want false", at)
		}
	}
	check(t, m, nil)
}

// P6.1: a memory of one cell, which is the first and the last.
func TestOneCell(t *testing.T) {
	m := New(1)
	for _, v := range []int{4, 0, -4, greatest, least, 0} {
		put(t, m, 0, v)
		check(t, m, []int{v})
	}
}

// P6.1: the edges of the greatest memory.
func TestMostCells(t *testing.T) {
	m, want := New(api.MaxMem), make([]int, api.MaxMem)
	for _, c := range []struct{ at, v int }{
		{0, -1}, {api.MaxMem - 1, 8}, {api.MaxMem - 2, least}, {1, greatest}, {api.MaxMem / 2, 6}, {api.MaxMem - 1, 0},
	} {
		put(t, m, c.at, c.v)
		want[c.at] = c.v
		check(t, m, want)
	}
	if got := len(m.Used()); got != api.MaxMem-1 {
		t.Errorf("Used() has %d cells, want %d", got, api.MaxMem-1)
	}
}

// P6.1: Used ends at the last cell that is not 0, whatever noughts stand ahead
// of it, and moves as it is stored.
func TestUsed(t *testing.T) {
	cases := []struct{ cells, want []int }{
		{[]int{0, 0, 0, 0}, nil},
		{[]int{1, 0, 0, 0}, []int{1}},
		{[]int{0, 0, 0, 2}, []int{0, 0, 0, 2}},
		{[]int{0, 3, 0, 0}, []int{0, 3}},
		{[]int{4, 0, 0, -4}, []int{4, 0, 0, -4}},
		{[]int{4, 0, -4, 0}, []int{4, 0, -4}},
		{[]int{1, 2, 3, 4}, []int{1, 2, 3, 4}},
		{[]int{0, least, 0, round}, []int{0, least}},
		{[]int{-round, 0, math.MinInt, 3 * round}, nil},
		{nil, nil},
	}
	for _, c := range cases {
		m := New(len(c.cells))
		for at, v := range c.cells {
			put(t, m, at, v)
		}
		if got := m.Used(); !slices.Equal(got, c.want) {
			t.Errorf("of %v: Used() = %v, want %v", c.cells, got, c.want)
		}
	}
}

// P6.1: Used, as the last cell that is not 0 is stored as 0 again, by 0 and by
// what is brought round to it, and as it comes back.
func TestUsedAfterNought(t *testing.T) {
	m := New(6)
	for _, c := range []struct {
		at, v int
		want  []int
	}{
		{1, 7, []int{0, 7}},
		{4, 9, []int{0, 7, 0, 0, 9}},
		{4, 0, []int{0, 7}},
		{5, -1, []int{0, 7, 0, 0, 0, -1}},
		{1, 0, []int{0, 0, 0, 0, 0, -1}},
		{5, round, nil},
		{0, 2, []int{2}},
		{0, 0, nil},
		{3, least, []int{0, 0, 0, least}},
	} {
		put(t, m, c.at, c.v)
		if got := m.Used(); !slices.Equal(got, c.want) {
			t.Errorf("after %d at %d: Used() = %v, want %v", c.v, c.at, got, c.want)
		}
	}
}

// rows goes on with each row of so many stores, each a number below kinds.
func rows(length int, kinds int, each func(row []int)) {
	row := make([]int, length)
	for {
		each(row)
		at := 0
		for at < length && row[at] == kinds-1 {
			row[at] = 0
			at++
		}
		if at == length {
			return
		}
		row[at]++
	}
}

// P6.2: after each of all short rows of stores, at all addresses and beyond
// both ends, a cell is what was stored there last, and no other one is turned.
func TestLastStoredByAllRows(t *testing.T) {
	choices := []stored{{0, 0}, {3, 3}, {round - 2, -2}}
	for n := range 4 {
		addresses := n + 2
		rows(4, addresses*len(choices), func(row []int) {
			m, want := New(n), make([]int, n)
			for _, step := range row {
				at, c := step%addresses-1, choices[step/addresses]
				there := at >= 0 && at < n
				if got := m.Store(at, c.v); got != there {
					t.Errorf("of %d cells: Store(%d, %d) = %v, want %v", n, at, c.v, got, there)
				}
				if there {
					want[at] = c.want
				}
			}
			check(t, m, want)
		})
	}
}

// P6.2: many stores and loads by turns, at places that jump about, against a
// plain list.
func TestLastStoredByTurns(t *testing.T) {
	for _, n := range []int{1, 2, 13, 1000, api.MaxMem} {
		m, want, all := New(n), make([]int, n), values()
		for step := range 3 * api.MaxMem {
			at, c := step*7919%n, all[step*31%len(all)]
			if v, ok := m.Load(at); v != want[at] || !ok {
				t.Fatalf("of %d cells, step %d: Load(%d) = %d, %v, want %d, true", n, step, at, v, ok, want[at])
			}
			put(t, m, at, c.v)
			want[at] = c.want
			if v, ok := m.Load(at); v != c.want || !ok {
				t.Fatalf("of %d cells, step %d: Load(%d) = %d, %v, want %d, true", n, step, at, v, ok, c.want)
			}
		}
		check(t, m, want)
	}
}

// P6.2: each cell is stored once: all others stay as they were.
func TestNoOtherCellIsTurned(t *testing.T) {
	const n = 40
	for at := range n {
		m, want := New(n), make([]int, n)
		for i := range n {
			want[i] = 100 + i
			put(t, m, i, want[i])
		}
		put(t, m, at, -9)
		want[at] = -9
		check(t, m, want)
	}
}

// P6.2: a load, and all that tells, turns nothing.
func TestAskingTurnsNothing(t *testing.T) {
	m, want := New(5), []int{0, 6, -6, 8, 0}
	for at, v := range want {
		put(t, m, at, v)
	}
	for range 3 {
		check(t, m, want)
		m.Load(-1)
		m.Load(5)
	}
}

// P6.2, R4: memories have nothing to do with each other.
func TestMemoriesAreApart(t *testing.T) {
	a, b := New(3), New(3)
	put(t, a, 0, 1)
	put(t, b, 2, 2)
	c := New(3)
	check(t, a, []int{1, 0, 0})
	check(t, b, []int{0, 0, 2})
	check(t, c, []int{0, 0, 0})
}

// R1: what was told stays as it was when the memory is stored into.
func TestListsStayAsTold(t *testing.T) {
	m := New(3)
	put(t, m, 0, 1)
	put(t, m, 2, 3)
	words, used := m.Words(), m.Used()
	for at := range 3 {
		put(t, m, at, 50+at)
	}
	if want := []int{1, 0, 3}; !slices.Equal(words, want) || !slices.Equal(used, want) {
		t.Errorf("told before: %v, %v, want %v", words, used, want)
	}
}

// R1: a list that was told may be written into, and put more behind, and
// neither the memory nor another list shows it.
func TestListsAreNewMemory(t *testing.T) {
	want := []int{1, 2, 0, 0}
	m := New(len(want))
	for at, v := range want {
		put(t, m, at, v)
	}
	for _, tell := range []func() []int{m.Words, m.Used} {
		others := [][]int{m.Words(), m.Used()}
		list := tell()
		_ = append(list, 70, 71, 72)
		for i := range list {
			list[i] = 60 + i
		}
		check(t, m, want)
		if !slices.Equal(others[0], want) || !slices.Equal(others[1], want[:2]) {
			t.Errorf("told before: %v, want %v, %v", others, want, want[:2])
		}
	}
}

// The chapter, and P1: a nil memory answers 0, false, nothing.
func TestNilMemory(t *testing.T) {
	for _, m := range []*Memory{nil, New(-1), New(api.MaxMem + 1)} {
		for _, at := range append(outside(0), 0, 1, 2) {
			if v, ok := m.Load(at); v != 0 || ok {
				t.Errorf("Load(%d) = %d, %v, want 0, false", at, v, ok)
			}
			if m.Store(at, 5) {
				t.Errorf("Store(%d, 5) = true, want false", at)
			}
		}
		check(t, m, nil)
	}
}

// R5, P1: a memory that was only declared has no cell.
func TestDeclaredMemory(t *testing.T) {
	var m Memory
	if v, ok := m.Load(0); v != 0 || ok || m.Store(0, 1) {
		t.Error("a memory that was only declared has a cell")
	}
	check(t, &m, nil)
}
