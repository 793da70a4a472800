// Package agenda: what happens later, by its tick.
package agenda

import "container/heap"

// Entry is one thing that is to be done; with it, Cancel takes that back.
type Entry struct {
	tick   int
	number int
	place  int
	do     func()
}

// Agenda holds what is still to be done. The zero value is an empty one.
type Agenda struct {
	entries entryHeap
	added   int
}

// Add puts down that do is to be called when the tick is reached.
func (a *Agenda) Add(tick int, do func()) *Entry {
	e := &Entry{tick: tick, number: a.added, do: do}
	a.added++
	heap.Push(&a.entries, e)
	return e
}

// Cancel takes an entry back; nil, or one that is not there any more, is left alone.
func (a *Agenda) Cancel(e *Entry) {
	if a.holds(e) {
		heap.Remove(&a.entries, e.place)
	}
}

// Reach does all that is due at the tick or ahead of it: by tick, and of one tick in the order in which it was added.
func (a *Agenda) Reach(tick int) {
	for len(a.entries) > 0 && a.entries[0].tick <= tick {
		// It goes out first, so that what is done may add and cancel in its turn.
		e := heap.Pop(&a.entries).(*Entry)
		e.do()
	}
}

func (a *Agenda) holds(e *Entry) bool {
	return e != nil && e.place < len(a.entries) && a.entries[e.place] == e
}
