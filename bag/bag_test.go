package bag

import (
	"fmt"
	"iter"
	"math"
	"slices"
	"strings"
	"testing"
)

// spot is a value made of parts, for queues and sets of structs.
type spot struct {
	name string
	x, y int
}

// toldOf: the places and values of a queue's All, and whether the places are
// 0, 1, 2 ..
func toldOf[T any](all iter.Seq2[int, T]) ([]T, bool) {
	var values []T
	right := true
	for i, v := range all {
		right = right && i == len(values)
		values = append(values, v)
	}
	return values, right
}

// holds: a queue has these values, by its Len and by its All, and says so as
// often as it is asked.
func holds[T comparable](t *testing.T, q *Queue[T], want []T, after string) {
	t.Helper()
	if n := q.Len(); n != len(want) {
		t.Fatalf("after %s: Len %d, want %d", after, n, len(want))
	}
	all := q.All()
	for range 2 {
		got, right := toldOf(all)
		if !right || !slices.Equal(got, want) {
			t.Fatalf("after %s: All %v (places right: %v), want %v", after, got, right, want)
		}
	}
}

// setHolds: a set has these values and none of the others, by all that it
// says.
func setHolds[T comparable](t *testing.T, s *Set[T], want, others []T, after string) {
	t.Helper()
	if n := s.Len(); n != len(want) {
		t.Fatalf("after %s: Len %d, want %d", after, n, len(want))
	}
	all := s.All()
	for range 2 {
		if got := slices.Collect(all); !slices.Equal(got, want) {
			t.Fatalf("after %s: All %v, want %v", after, got, want)
		}
	}
	for _, v := range others {
		if got, is := s.Has(v), slices.Contains(want, v); got != is {
			t.Fatalf("after %s: Has(%v) %v, want %v", after, v, got, is)
		}
	}
}

// popped: a Pop answers this.
func popped[T comparable](t *testing.T, q *Queue[T], want T, there bool, after string) {
	t.Helper()
	if v, ok := q.Pop(); v != want || ok != there {
		t.Fatalf("after %s: Pop %v %v, want %v %v", after, v, ok, want, there)
	}
}

// P5.1: the chapter's example, and what a queue has at each step.
func TestQueueByHand(t *testing.T) {
	var q Queue[int]
	holds(t, &q, nil, "nothing")
	q.Push(1)
	holds(t, &q, []int{1}, "Push 1")
	q.Push(2)
	holds(t, &q, []int{1, 2}, "Push 2")
	popped(t, &q, 1, true, "two pushes")
	holds(t, &q, []int{2}, "a Pop")
	q.Push(1)
	q.Push(2)
	holds(t, &q, []int{2, 1, 2}, "the same values again")
	popped(t, &q, 2, true, "three more")
	popped(t, &q, 1, true, "one Pop")
	popped(t, &q, 2, true, "two Pops")
	holds(t, &q, nil, "all Pops")
	popped(t, &q, 0, false, "all Pops")
}

// P5.1: a queue that was only declared is empty, by whatever it is asked
// first, and stays so after any number of Pops.
func TestQueueOnlyDeclared(t *testing.T) {
	var first Queue[string]
	popped(t, &first, "", false, "nothing")
	var second Queue[string]
	for i, v := range second.All() {
		t.Errorf("All of none: %d %q", i, v)
	}
	third := new(Queue[spot])
	for range 5 {
		popped(t, third, spot{}, false, "nothing")
	}
	holds(t, third, nil, "Pops of none")
	third.Push(spot{"a", 1, 2})
	holds(t, third, []spot{{"a", 1, 2}}, "Pops of none and a Push")
	popped(t, third, spot{"a", 1, 2}, true, "a Push")
	popped(t, third, spot{}, false, "a Pop: nothing is left of the last one")
}

// P5.1: values that are their type's zero are values as any others; only the
// bool tells them from none.
func TestQueueOfZeros(t *testing.T) {
	var numbers Queue[int]
	var texts Queue[string]
	var pointers Queue[*int]
	var nothings Queue[struct{}]
	for range 3 {
		numbers.Push(0)
		texts.Push("")
		pointers.Push(nil)
		nothings.Push(struct{}{})
	}
	holds(t, &numbers, []int{0, 0, 0}, "three zeros")
	holds(t, &texts, []string{"", "", ""}, "three empty texts")
	holds(t, &pointers, []*int{nil, nil, nil}, "three nil pointers")
	holds(t, &nothings, make([]struct{}, 3), "three empty structs")
	for i := range 4 {
		popped(t, &numbers, 0, i < 3, "zeros")
		popped(t, &texts, "", i < 3, "empty texts")
		popped(t, &pointers, nil, i < 3, "nil pointers")
		popped(t, &nothings, struct{}{}, i < 3, "empty structs")
	}
}

// P5.1: a queue is of any type, also of one that cannot be compared.
func TestQueueOfAnyType(t *testing.T) {
	var lists Queue[[]int]
	lists.Push([]int{1, 2})
	lists.Push(nil)
	lists.Push([]int{3})
	if v, ok := lists.Pop(); !slices.Equal(v, []int{1, 2}) || !ok {
		t.Errorf("Pop: %v %v", v, ok)
	}
	if v, ok := lists.Pop(); v != nil || !ok {
		t.Errorf("Pop of nil: %v %v", v, ok)
	}
	var calls Queue[func() int]
	for i := range 3 {
		calls.Push(func() int { return i })
	}
	for i, call := range calls.All() {
		if call() != i {
			t.Errorf("the function at %d answers %d", i, call())
		}
	}
	var queues Queue[*Queue[int]]
	inner := new(Queue[int])
	queues.Push(inner)
	inner.Push(7)
	if q, ok := queues.Pop(); q != inner || !ok || q.Len() != 1 {
		t.Error("a queue of queues")
	}
}

// P5.1, P5.3: every row of up to 11 pushes and pops, held at each step against
// a plain list.
func TestQueueAllRows(t *testing.T) {
	const steps = 11
	for row := range 1 << steps {
		var q Queue[int]
		var want []int
		for step := range steps {
			after := fmt.Sprintf("%d steps of the row %011b", step+1, row)
			if row>>step&1 == 0 {
				q.Push(step + 100)
				want = append(want, step+100)
			} else if len(want) == 0 {
				popped(t, &q, 0, false, after)
			} else {
				popped(t, &q, want[0], true, after)
				want = want[1:]
			}
			holds(t, &q, want, after)
		}
	}
}

// P5.1, P5.3: many values, all popped, in order, and all anew.
func TestQueueOfMany(t *testing.T) {
	const many = 200_000
	var q Queue[int]
	for turn := range 3 {
		for i := range many {
			q.Push(i*3 + turn)
		}
		if q.Len() != many {
			t.Fatalf("Len %d", q.Len())
		}
		for i := range many {
			if v, ok := q.Pop(); v != i*3+turn || !ok {
				t.Fatalf("turn %d: Pop %d: %d %v", turn, i, v, ok)
			}
		}
		popped(t, &q, 0, false, "all Pops")
		holds(t, &q, nil, "all Pops")
	}
}

// P5.1: a long life with few values at a time.
func TestQueueByTurns(t *testing.T) {
	var q Queue[string]
	next, first := 0, 0
	for turn := range 20_000 {
		for range turn % 4 {
			q.Push(fmt.Sprint(next))
			next++
		}
		for range (turn*7 + 1) % 3 {
			if first == next {
				popped(t, &q, "", false, "as many Pops as pushes")
				continue
			}
			popped(t, &q, fmt.Sprint(first), true, "turns")
			first++
		}
		if q.Len() != next-first {
			t.Fatalf("turn %d: Len %d, want %d", turn, q.Len(), next-first)
		}
	}
}

// P5.1: All left early, at each place, asks for no more, and can be begun
// again.
func TestQueueAllLeftEarly(t *testing.T) {
	var q Queue[int]
	for i := range 6 {
		q.Push(i * 11)
	}
	q.Pop()
	all := q.All()
	for leave := range 5 {
		var got []string
		for i, v := range all {
			got = append(got, fmt.Sprint(i, ":", v))
			if i == leave {
				break
			}
		}
		want := []string{"0:11", "1:22", "2:33", "3:44", "4:55"}[:leave+1]
		if !slices.Equal(got, want) {
			t.Errorf("left at %d: %v, want %v", leave, got, want)
		}
	}
	holds(t, &q, []int{11, 22, 33, 44, 55}, "All left early")
}

// P5.1: All called by hand says no more once it is told false.
func TestAllStops(t *testing.T) {
	var q Queue[int]
	var s Set[int]
	for i := range 4 {
		q.Push(i)
		s.Add(i)
	}
	for stop := 1; stop <= 5; stop++ {
		calls := 0
		q.All()(func(int, int) bool { calls++; return calls < stop })
		if calls != min(stop, 4) {
			t.Errorf("queue: %d calls, want %d", calls, min(stop, 4))
		}
		calls = 0
		s.All()(func(int) bool { calls++; return calls < stop })
		if calls != min(stop, 4) {
			t.Errorf("set: %d calls, want %d", calls, min(stop, 4))
		}
	}
}

// P5.1: one All inside another, of the same queue.
func TestQueueAllNested(t *testing.T) {
	var q Queue[string]
	for _, v := range []string{"a", "b", "c"} {
		q.Push(v)
	}
	got := ""
	all := q.All()
	for i, v := range all {
		for j, w := range all {
			if j > i {
				break
			}
			got += v + w + " "
		}
	}
	if got != "aa ba bb ca cb cc " {
		t.Errorf("All in All: %q", got)
	}
}

// R1, R4: what All answered is that of the time of the call, whatever the
// queue does later.
func TestQueueAllIsThatOfTheCall(t *testing.T) {
	var q Queue[int]
	none := q.All()
	q.Push(1)
	q.Push(2)
	two := q.All()
	q.Push(3)
	q.Pop()
	after := q.All()
	q.Pop()
	q.Pop()
	q.Push(9)
	for name, c := range map[string]struct {
		all  iter.Seq2[int, int]
		want []int
	}{
		"of none":     {none, nil},
		"of 1, 2":     {two, []int{1, 2}},
		"of 2, 3":     {after, []int{2, 3}},
		"of 9, anew":  {q.All(), []int{9}},
		"of 9, again": {q.All(), []int{9}},
	} {
		if got, right := toldOf(c.all); !right || !slices.Equal(got, c.want) {
			t.Errorf("All %s: %v, want %v", name, got, c.want)
		}
	}
}

// P1: a range over All ends though its body pushes or adds, and is not put
// out by a body that pops.
func TestAllWhileChanging(t *testing.T) {
	var q Queue[int]
	var s Set[int]
	for i := range 4 {
		q.Push(i)
		s.Add(i)
	}
	var seen, popped, added []int
	for _, v := range q.All() {
		seen = append(seen, v)
		q.Push(v + 10)
		for range 2 {
			w, _ := q.Pop()
			popped = append(popped, w)
		}
	}
	if !slices.Equal(seen, []int{0, 1, 2, 3}) {
		t.Errorf("All while popping: %v", seen)
	}
	if !slices.Equal(popped, []int{0, 1, 2, 3, 10, 11, 12, 13}) {
		t.Errorf("popped: %v", popped)
	}
	for v := range s.All() {
		added = append(added, v)
		s.Add(v + 10)
	}
	if !slices.Equal(added, []int{0, 1, 2, 3}) {
		t.Errorf("All while adding: %v", added)
	}
	setHolds(t, &s, []int{0, 1, 2, 3, 10, 11, 12, 13}, nil, "a range that adds")
}

// R4: two queues, and two sets, have nothing of one another.
func TestApart(t *testing.T) {
	var a, b Queue[int]
	var c, d Set[int]
	a.Push(1)
	c.Add(1)
	b.Push(2)
	d.Add(2)
	holds(t, &a, []int{1}, "a Push to each")
	holds(t, &b, []int{2}, "a Push to each")
	setHolds(t, &c, []int{1}, []int{1, 2}, "an Add to each")
	setHolds(t, &d, []int{2}, []int{1, 2}, "an Add to each")
	b.Pop()
	holds(t, &a, []int{1}, "the other's Pop")
}

// R1: a queue and a set keep the struct that they were told, not the variable.
func TestKeepsWhatWasTold(t *testing.T) {
	var q Queue[spot]
	var s Set[spot]
	v := spot{"a", 1, 2}
	q.Push(v)
	s.Add(v)
	v.x = 9
	holds(t, &q, []spot{{"a", 1, 2}}, "a change of the variable")
	setHolds(t, &s, []spot{{"a", 1, 2}}, []spot{v, {"a", 1, 2}}, "a change of the variable")
	for _, told := range q.All() {
		told.y = 5
	}
	for told := range s.All() {
		told.y = 5
	}
	holds(t, &q, []spot{{"a", 1, 2}}, "a change of what was told")
	setHolds(t, &s, []spot{{"a", 1, 2}}, []spot{{"a", 1, 5}}, "a change of what was told")
}

// P5.2: the chapter's example, and what a set has at each step.
func TestSetByHand(t *testing.T) {
	var s Set[int]
	asked := []int{-3, 0, 1, 3, 5}
	setHolds(t, &s, nil, asked, "nothing")
	for i, c := range []struct {
		add  int
		want bool
		then []int
	}{
		{3, true, []int{3}},
		{3, false, []int{3}},
		{1, true, []int{3, 1}},
		{5, true, []int{3, 1, 5}},
		{3, false, []int{3, 1, 5}},
		{1, false, []int{3, 1, 5}},
		{-3, true, []int{3, 1, 5, -3}},
		{5, false, []int{3, 1, 5, -3}},
	} {
		if got := s.Add(c.add); got != c.want {
			t.Errorf("step %d: Add(%d) %v, want %v", i, c.add, got, c.want)
		}
		setHolds(t, &s, c.then, asked, fmt.Sprint("step ", i))
	}
}

// P5.2: a set that was only declared is empty, by whatever it is asked first.
func TestSetOnlyDeclared(t *testing.T) {
	var first Set[string]
	if first.Has("") || first.Has("x") {
		t.Error("Has of what was never added")
	}
	var second Set[spot]
	for v := range second.All() {
		t.Errorf("All of none: %v", v)
	}
	third := new(Set[string])
	if third.Len() != 0 || !third.Add("") || third.Add("") || third.Len() != 1 {
		t.Error("Add of the empty text")
	}
}

// P5.2: values that are their type's zero are there only once they are added.
func TestSetOfZeros(t *testing.T) {
	zeroOf(t, 0, 1)
	zeroOf(t, "", " ")
	zeroOf(t, spot{}, spot{x: 1})
	zeroOf(t, nil, new(int))
	zeroOf[any](t, nil, 0)
	zeroOf(t, [2]bool{}, [2]bool{false, true})
	zeroOf(t, false, true)
}

func zeroOf[T comparable](t *testing.T, zero, other T) {
	t.Helper()
	var s Set[T]
	both := []T{zero, other}
	setHolds(t, &s, nil, both, "nothing")
	if !s.Add(other) {
		t.Errorf("Add(%v) false", other)
	}
	setHolds(t, &s, []T{other}, both, "the other")
	if !s.Add(zero) || s.Add(zero) || s.Add(other) {
		t.Errorf("Add(%v)", zero)
	}
	setHolds(t, &s, []T{other, zero}, both, "both")
}

// P5.2: structs and texts are the same if their parts, or bytes, are.
func TestSetOfTextsAndStructs(t *testing.T) {
	var texts Set[string]
	made := strings.Repeat("ab", 2)
	if !texts.Add("abab") || texts.Add(made) || !texts.Has(made) || texts.Has("ABAB") || texts.Has("aba") {
		t.Error("texts")
	}
	var spots Set[spot]
	added := []spot{{"a", 1, 2}, {"a", 2, 1}, {"b", 1, 2}, {"", 0, 0}}
	for _, v := range added {
		if !spots.Add(v) {
			t.Errorf("Add(%v) false", v)
		}
	}
	for _, v := range added {
		if spots.Add(v) {
			t.Errorf("Add(%v) twice", v)
		}
	}
	setHolds(t, &spots, added, append([]spot{{"a", 1, 1}, {"b", 2, 1}}, added...), "structs")
}

// P5.2, P5.3: every row of up to 7 adds of 4 values, held at each step against
// a plain list.
func TestSetAllRows(t *testing.T) {
	values := []string{"", "b", "a", "ab"}
	const steps = 7
	for row := range 1 << (2 * steps) {
		var s Set[string]
		var want []string
		for step := range steps {
			v := values[row>>(2*step)&3]
			fresh := !slices.Contains(want, v)
			if fresh {
				want = append(want, v)
			}
			if got := s.Add(v); got != fresh {
				t.Fatalf("row %d, step %d: Add(%q) %v, want %v", row, step, v, got, fresh)
			}
		}
		setHolds(t, &s, want, values, fmt.Sprint("the row ", row))
	}
}

// P5.2, P5.3: many values, each added twice, all there from then on.
func TestSetOfMany(t *testing.T) {
	const many = 200_000
	var s Set[int]
	for i := range many {
		v := (i*7919 + 13) % many // each once: 7919 and many share no factor
		if s.Has(v) || !s.Add(v) || s.Add(v) || !s.Has(v) || s.Len() != i+1 {
			t.Fatalf("the value %d, at %d", v, i)
		}
	}
	i := 0
	for v := range s.All() {
		if v != (i*7919+13)%many {
			t.Fatalf("at %d: %d", i, v)
		}
		if s.Add(v) || !s.Has(v) || s.Has(v+many) || s.Has(-v-1) {
			t.Fatalf("Has, Add of %d", v)
		}
		i++
	}
	if i != many || s.Len() != many {
		t.Errorf("%d values, Len %d", i, s.Len())
	}
}

// P5.2: a set's All left early, at each place, begun again, and one in another.
func TestSetAllLeftEarly(t *testing.T) {
	var s Set[int]
	for _, v := range []int{5, 3, 5, 4, 3, 1} {
		s.Add(v)
	}
	all := s.All()
	for leave := 1; leave <= 4; leave++ {
		var got []int
		for v := range all {
			got = append(got, v)
			if len(got) == leave {
				break
			}
		}
		if want := []int{5, 3, 4, 1}[:leave]; !slices.Equal(got, want) {
			t.Errorf("left at %d: %v, want %v", leave, got, want)
		}
	}
	var got []int
	for v := range all {
		for w := range all {
			got = append(got, v*10+w)
			if w == v {
				break
			}
		}
	}
	if want := []int{55, 35, 33, 45, 43, 44, 15, 13, 14, 11}; !slices.Equal(got, want) {
		t.Errorf("All in All: %v, want %v", got, want)
	}
}

// R1, R4: what a set's All answered is that of the time of the call.
func TestSetAllIsThatOfTheCall(t *testing.T) {
	var s Set[int]
	var alls []iter.Seq[int]
	for i := range 20 {
		alls = append(alls, s.All())
		s.Add(i * i)
		s.Add(i * i)
	}
	for n, all := range alls {
		got := slices.Collect(all)
		if len(got) != n || n > 0 && got[n-1] != (n-1)*(n-1) {
			t.Errorf("All of %d: %v", n, got)
		}
	}
}

// P1: a value that Go cannot hold against others is like none, and nothing
// panics, whether others are there or not.
func TestSetOfWhatCannotBeHeld(t *testing.T) {
	type part struct {
		n int
		v any
	}
	var s Set[any]
	bad := []any{[]int{1}, map[int]int{}, func() {}, part{1, []int{1}}, [1]any{[]int{}}}
	for turn := range 2 {
		for i, v := range bad {
			if s.Has(v) || !s.Add(v) || s.Has(v) {
				t.Errorf("turn %d: value %d is like another", turn, i)
			}
			if want := turn*(len(bad)+2) + i + 1; s.Len() != want {
				t.Errorf("turn %d: Len %d, want %d", turn, s.Len(), want)
			}
		}
		if !s.Add(turn) || !s.Has(turn) || s.Add(turn) || !s.Add(part{turn, "x"}) || !s.Has(part{turn, "x"}) {
			t.Errorf("turn %d: an ordinary value beside", turn)
		}
	}
	n := 0
	for range s.All() {
		n++
	}
	if n != s.Len() {
		t.Errorf("All tells %d, Len %d", n, s.Len())
	}
	var floats Set[float64]
	if !floats.Add(math.NaN()) || floats.Has(math.NaN()) || !floats.Add(math.NaN()) || floats.Len() != 2 {
		t.Error("floats that are no numbers")
	}
	if !floats.Add(0) || floats.Add(math.Copysign(0, -1)) || !floats.Add(math.Inf(1)) || floats.Add(math.Inf(1)) {
		t.Error("floats at the edges")
	}
}

// before is the order of numbers.
func before(a, b int) bool { return a < b }

// P5.2: Least by hand, of numbers, texts and structs.
func TestLeastByHand(t *testing.T) {
	for _, c := range []struct {
		of   []int
		want int
		ok   bool
	}{
		{nil, 0, false},
		{[]int{}, 0, false},
		{[]int{0}, 0, true},
		{[]int{7}, 7, true},
		{[]int{3, 1, 2}, 1, true},
		{[]int{1, 2, 3}, 1, true},
		{[]int{3, 2, 1}, 1, true},
		{[]int{0, 5, 0}, 0, true},
		{[]int{4, -1, 4, -1}, -1, true},
		{[]int{math.MaxInt, math.MinInt, 0}, math.MinInt, true},
		{[]int{math.MaxInt}, math.MaxInt, true},
	} {
		if v, ok := Least(slices.Values(c.of), before); v != c.want || ok != c.ok {
			t.Errorf("Least(%v): %d %v, want %d %v", c.of, v, ok, c.want, c.ok)
		}
	}
	texts := slices.Values([]string{"b", "ab", "a", "c"})
	if v, ok := Least(texts, func(a, b string) bool { return a < b }); v != "a" || !ok {
		t.Errorf("the first text: %q %v", v, ok)
	}
	if v, ok := Least(texts, func(a, b string) bool { return len(a) > len(b) }); v != "ab" || !ok {
		t.Errorf("the longest text: %q %v", v, ok)
	}
}

// P5.2: of several that are least, the first one.
func TestLeastOfEquals(t *testing.T) {
	byX := func(a, b spot) bool { return a.x < b.x }
	for _, c := range []struct {
		of   []spot
		want string
	}{
		{[]spot{{"a", 1, 0}, {"b", 1, 0}}, "a"},
		{[]spot{{"a", 2, 0}, {"b", 1, 0}, {"c", 1, 0}, {"d", 2, 0}}, "b"},
		{[]spot{{"a", 2, 0}, {"b", 2, 0}, {"c", 1, 0}}, "c"},
		{[]spot{{"a", 1, 9}, {"b", 2, 0}, {"c", 1, 0}, {"d", 1, 1}}, "a"},
	} {
		if v, ok := Least(slices.Values(c.of), byX); v.name != c.want || !ok {
			t.Errorf("Least(%v): %v %v, want %s", c.of, v, ok, c.want)
		}
	}
}

// leastBySaying: P5.2's own words, each value held against all others.
func leastBySaying(of []int, less func(a, b int) bool) (int, bool) {
	for i, v := range of {
		free := true
		for j, w := range of {
			if i != j && less(w, v) {
				free = false
			}
		}
		if free {
			return i, true
		}
	}
	return 0, false
}

// P5.2: Least of all rows of up to 5 values, in several orders, also such as
// leave values beside each other.
func TestLeastAllRows(t *testing.T) {
	values := []int{12, 6, 4, 3, 2, 5}
	orders := map[string]func(a, b int) bool{
		"numbers":     before,
		"backwards":   func(a, b int) bool { return a > b },
		"parity":      func(a, b int) bool { return a%2 < b%2 },
		"divisors":    func(a, b int) bool { return a != b && b%a == 0 },
		"multiples":   func(a, b int) bool { return a != b && a%b == 0 },
		"parts":       func(a, b int) bool { return a != b && a&b == a },
		"by two":      func(a, b int) bool { return a+1 < b },
		"none at all": func(a, b int) bool { return false },
	}
	for name, order := range orders {
		for size := range 6 {
			rows := 1
			for range size {
				rows *= len(values)
			}
			for row := range rows {
				checkLeast(t, rowOf(row, size, values), order, name)
			}
		}
	}
}

// rowOf: a number's digits, as values.
func rowOf(row, size int, values []int) []int {
	of := make([]int, size)
	for i := range of {
		of[i] = values[row%len(values)]
		row /= len(values)
	}
	return of
}

// checkLeast holds Least against P5.2's words; the values are told by their
// places, so that it shows which one of equals is answered.
func checkLeast(t *testing.T, of []int, order func(a, b int) bool, name string) {
	t.Helper()
	places := func(yield func(int) bool) {
		for i := range of {
			if !yield(i) {
				return
			}
		}
	}
	less := func(a, b int) bool { return order(of[a], of[b]) }
	got, ok := Least(places, less)
	want, there := leastBySaying(of, order)
	if got != want || ok != there {
		t.Fatalf("order of %s: Least(%v): at %d %v, want at %d %v", name, of, got, ok, want, there)
	}
}

// P5.2: an order that leaves values beside each other: 4 and 3 have nothing
// less, and 4 is the first, though 3 is what a look from 9 on comes to.
func TestLeastBeside(t *testing.T) {
	divides := func(a, b int) bool { return a != b && b%a == 0 }
	if v, ok := Least(slices.Values([]int{9, 4, 3}), divides); v != 4 || !ok {
		t.Errorf("Least by divisors: %d %v, want 4", v, ok)
	}
	if v, ok := Least(slices.Values([]int{9, 8, 3, 4}), divides); v != 3 || !ok {
		t.Errorf("Least by divisors: %d %v, want 3", v, ok)
	}
}

// P5.2: many values, in order, against it, and all equal; it must not take the
// square of their number.
func TestLeastOfMany(t *testing.T) {
	const many = 300_000
	for name, of := range map[string]func(i int) int{
		"rising":   func(i int) int { return i },
		"falling":  func(i int) int { return many - i },
		"equal":    func(i int) int { return 5 },
		"by turns": func(i int) int { return i % 2 },
	} {
		least, calls := of(0), 0
		all := func(yield func(int) bool) {
			for i := range many {
				least = min(least, of(i))
				if !yield(of(i)) {
					return
				}
			}
		}
		less := func(a, b int) bool { calls++; return a < b }
		if v, ok := Least(all, less); v != least || !ok {
			t.Errorf("%s: %d %v, want %d", name, v, ok, least)
		}
		if calls > 4*many {
			t.Errorf("%s: %d questions of %d values", name, calls, many)
		}
	}
}

// P5.2: Least of what a set and a queue tell, which stay as they are; and of
// what can be told but once.
func TestLeastOfBags(t *testing.T) {
	var s Set[int]
	var q Queue[int]
	for _, v := range []int{8, 6, 8, 7, 6} {
		s.Add(v)
		q.Push(v)
	}
	values := func(yield func(int) bool) {
		for _, v := range q.All() {
			if !yield(v) {
				return
			}
		}
	}
	for range 2 {
		if v, ok := Least(s.All(), before); v != 6 || !ok {
			t.Errorf("Least of a set: %d %v", v, ok)
		}
		if v, ok := Least(values, before); v != 6 || !ok {
			t.Errorf("Least of a queue: %d %v", v, ok)
		}
	}
	setHolds(t, &s, []int{8, 6, 7}, []int{6, 7, 8, 9}, "Least")
	holds(t, &q, []int{8, 6, 8, 7, 6}, "Least")
	once := func(yield func(int) bool) {
		for v, ok := q.Pop(); ok && yield(v); v, ok = q.Pop() {
		}
	}
	if v, ok := Least(once, before); v != 6 || !ok || q.Len() != 0 {
		t.Errorf("Least of what is told once: %d %v, %d left", v, ok, q.Len())
	}
}

// P1: neither a function that is not there nor an order that is none panics.
func TestLeastOfNothing(t *testing.T) {
	if v, ok := Least(nil, before); v != 0 || ok {
		t.Errorf("Least of no function: %d %v", v, ok)
	}
	if v, ok := Least[string](nil, nil); v != "" || ok {
		t.Errorf("Least of nothing at all: %q %v", v, ok)
	}
	if v, ok := Least(slices.Values([]int{3, 1, 2}), nil); v != 3 || !ok {
		t.Errorf("Least without an order: %d %v, want the first", v, ok)
	}
	var none Set[spot]
	if v, ok := Least(none.All(), func(a, b spot) bool { return a.x < b.x }); v != (spot{}) || ok {
		t.Errorf("Least of none: %v %v", v, ok)
	}
	round := func(a, b int) bool { return (b-a+3)%3 == 1 }
	for _, less := range []func(a, b int) bool{round, func(a, b int) bool { return true }} {
		if v, ok := Least(slices.Values([]int{0, 1, 2}), less); v != 0 || ok {
			t.Errorf("each has one less than it: %d %v", v, ok)
		}
	}
	if v, ok := Least(slices.Values([]int{4}), func(a, b int) bool { return true }); v != 4 || !ok {
		t.Errorf("no other one: %d %v", v, ok)
	}
}
