// Package window: a limit as it goes along with time.
package window

import "drip/api"

// Window holds what was given within a limit's last ticks, and the sum of it.
type Window struct {
	limit api.Limit
	given []int // a ring, an amount for each tick of the window
	at    int   // where in the ring the tick stands that comes next; the oldest tick follows it
	sum   int
}

// New makes the window of a limit, within which nothing was given; the limit's window must be above 0.
func New(l api.Limit) *Window {
	return &Window{limit: l, given: make([]int, l.Window)}
}

// Counts tells whether the limit counts for a channel.
func (w *Window) Counts(channel int) bool {
	return w.limit.Channels>>channel&1 == 1
}

// Left tells how much the limit still lets be given at the tick that comes next.
func (w *Window) Left() int {
	return w.limit.Cap - w.sum
}

// Give adds what is given at the tick that comes next.
func (w *Window) Give(amount int) {
	w.given[w.at] += amount
	w.sum += amount
}

// Pass lets one tick go by: what is too old then goes out.
func (w *Window) Pass() {
	w.at = w.after(1)
	w.sum -= w.given[w.at]
	w.given[w.at] = 0
}

// Wait tells after how many ticks the amount would be left, if nothing were given till then; false, if it never is.
func (w *Window) Wait(amount int) (int, bool) {
	if amount > w.limit.Cap {
		return 0, false
	}
	// This ends: when the whole ring has gone out, the whole cap is left.
	ticks := 0
	for left := w.Left(); left < amount; left += w.given[w.after(ticks)] {
		ticks++
	}
	return ticks, true
}

func (w *Window) after(ticks int) int {
	return (w.at + ticks) % len(w.given)
}
