package sched

import (
	"container/heap"

	"delayslot/api"
	"delayslot/bag"
	"delayslot/depend"
	"delayslot/effect"
)

// line is what is known of a list while its order is made, by its places.
type line struct {
	heights []int
	awaited []int        // how many must stand ahead of each, and do not yet
	behind  [][]follower // those by which each is awaited
	ready   ready        // those that may stand at the next place
	soon    bag.Queue[int]
}

// follower is one that another one must stay ahead of, so far.
type follower struct{ at, far int }

// lineOf: of a list, of which none stands yet.
func lineOf(l []api.Instr) *line {
	w := &line{
		heights: depend.Heights(l),
		awaited: make([]int, len(l)),
		behind:  make([][]follower, len(l)),
	}
	var ahead trail
	for at, i := range l {
		for _, a := range ahead.of(i) {
			w.behind[a] = append(w.behind[a], follower{at, depend.Far(l[a], i)})
			w.awaited[at]++
		}
		ahead.add(at, i)
		if w.awaited[at] == 0 {
			w.mayStand(at)
		}
	}
	return w
}

// next: the one that stands at the next place; nothing, if none may.
func (w *line) next() int {
	if len(w.ready) == 0 {
		w.soonReady()
		return nothing
	}
	at := heap.Pop(&w.ready).(candidate).at
	w.soonReady()
	w.stands(at)
	return at
}

// soonReady: those that were one place too near may stand now.
func (w *line) soonReady() {
	for at, ok := w.soon.Pop(); ok; at, ok = w.soon.Pop() {
		w.mayStand(at)
	}
}

// stands: one does; those for which it was the last one awaited may stand
// behind it, or one place later. What stands ahead of it is far enough from
// there on, however far it must be.
func (w *line) stands(at int) {
	for _, f := range w.behind[at] {
		w.awaited[f.at]--
		switch {
		case w.awaited[f.at] > 0:
		case f.far > 1:
			w.soon.Push(f.at)
		default:
			w.mayStand(f.at)
		}
	}
}

// mayStand: one may, at the next place.
func (w *line) mayStand(at int) {
	heap.Push(&w.ready, candidate{at, w.heights[at]})
}

// trail is what those ahead in a list did last, by their places: who wrote each
// register, and who read it since; who acted. Register 0 is never read or
// written, so that nobody is there.
type trail struct {
	wrote, read [api.Regs][]int
	acted       []int
}

// of: those that must stay ahead of an instruction, but such that must stay
// ahead of one of these. As each step is a place at least, a late one is two
// ahead by way of another one; so each is awaited by few, where those that must
// stay ahead are too many in a long list.
func (ahead *trail) of(i api.Instr) []int {
	var all []int
	for _, reg := range effect.Reads(i) {
		all = append(all, ahead.wrote[reg]...)
	}
	written := effect.Writes(i)
	all = append(all, ahead.wrote[written]...)
	all = append(all, ahead.read[written]...)
	if effect.Acts(i) {
		all = append(all, ahead.acted...)
	}
	return all
}

// add: one more, behind all others.
func (ahead *trail) add(at int, i api.Instr) {
	for _, reg := range effect.Reads(i) {
		ahead.read[reg] = append(ahead.read[reg], at)
	}
	if reg := effect.Writes(i); reg != 0 {
		ahead.wrote[reg] = append(ahead.wrote[reg][:0], at)
		ahead.read[reg] = ahead.read[reg][:0]
	}
	if effect.Acts(i) {
		ahead.acted = append(ahead.acted[:0], at)
	}
}

// candidate is one that may stand at the next place.
type candidate struct{ at, height int }

// ready is a heap of candidates: the one of the greatest height comes first, of
// several the first one of the list.
type ready []candidate

// Len: how many there are.
func (r ready) Len() int { return len(r) }

// Less: does the candidate at one place of the heap come ahead of another's?
func (r ready) Less(a int, b int) bool {
	if r[a].height != r[b].height {
		return r[a].height > r[b].height
	}
	return r[a].at < r[b].at
}

// Swap: two of them.
func (r ready) Swap(a int, b int) { r[a], r[b] = r[b], r[a] }

// Push: one more, at the end.
func (r *ready) Push(v any) { *r = append(*r, v.(candidate)) }

// Pop: the one at the end, taken out.
func (r *ready) Pop() any {
	end := len(*r) - 1
	v := (*r)[end]
	*r = (*r)[:end]
	return v
}
