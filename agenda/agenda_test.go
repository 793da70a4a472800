package agenda_test

import (
	"math/rand"
	"slices"
	"testing"

	"drip/agenda"
)

// list notes what was done, in order.
type list struct {
	agenda.Agenda
	done []int
}

func (l *list) note(tick, name int) *agenda.Entry {
	return l.Add(tick, func() { l.done = append(l.done, name) })
}

func (l *list) reaches(t *testing.T, tick int, want ...int) {
	t.Helper()
	l.done = nil
	l.Reach(tick)
	if !slices.Equal(l.done, want) {
		t.Errorf("Reach(%d) did %v, want %v", tick, l.done, want)
	}
}

func TestByTick(t *testing.T) {
	var l list
	l.reaches(t, 100)
	l.note(5, 50)
	l.note(2, 20)
	l.note(9, 90)
	l.note(3, 30)
	l.reaches(t, 1)
	l.reaches(t, 3, 20, 30)
	l.reaches(t, 3)
	l.reaches(t, 4)
	l.note(7, 70)
	l.reaches(t, 9, 50, 70, 90)
	l.reaches(t, 100)
}

func TestOneTickInOrder(t *testing.T) {
	var l list
	var want []int
	for i := range 40 {
		l.note(3, i)
		want = append(want, i)
	}
	l.reaches(t, 3, want...)
}

func TestCancel(t *testing.T) {
	var l list
	l.Cancel(nil)
	first, second, third := l.note(1, 1), l.note(2, 2), l.note(3, 3)
	l.Cancel(second)
	l.Cancel(second)
	l.reaches(t, 2, 1)
	l.Cancel(first)
	l.reaches(t, 3, 3)
	l.Cancel(third)
	l.note(4, 4)
	l.Cancel(third)
	var other list
	stranger := other.note(4, 40)
	l.Cancel(stranger)
	l.reaches(t, 4, 4)
	other.reaches(t, 4, 40)
}

func TestDoneMayAddAndCancel(t *testing.T) {
	var l list
	gone := l.note(6, 60)
	l.Add(5, func() {
		l.done = append(l.done, 50)
		l.Cancel(gone)
		l.note(5, 51)
		l.note(7, 70)
	})
	l.reaches(t, 6, 50, 51)
	l.reaches(t, 7, 70)
}

// TestDrawn holds the agenda against a sorted list.
func TestDrawn(t *testing.T) {
	r := rand.New(rand.NewSource(1))
	for range 200 {
		var l list
		var entries []*agenda.Entry
		var ticks []int
		for i := range 30 {
			ticks = append(ticks, r.Intn(12))
			entries = append(entries, l.note(ticks[i], i))
		}
		for range 10 {
			i := r.Intn(len(entries))
			l.Cancel(entries[i])
			ticks[i] = -1
		}
		for tick := range 12 {
			var want []int
			for i, at := range ticks {
				if at == tick {
					want = append(want, i)
				}
			}
			l.reaches(t, tick, want...)
		}
	}
}
