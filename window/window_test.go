package window_test

import (
	"math/rand"
	"testing"

	"drip/api"
	"drip/window"
)

func left(t *testing.T, w *window.Window, want int) {
	t.Helper()
	if got := w.Left(); got != want {
		t.Errorf("Left() = %d, want %d", got, want)
	}
}

// wait: -1: never.
func wait(t *testing.T, w *window.Window, amount, want int) {
	t.Helper()
	ticks, comes := w.Wait(amount)
	if !comes && ticks == 0 {
		ticks = -1
	}
	if ticks != want || comes != (want >= 0) {
		t.Errorf("Wait(%d) = %d, %v, want %d", amount, ticks, comes, want)
	}
}

func TestCounts(t *testing.T) {
	for set := 1; set < 16; set++ {
		w := window.New(api.Limit{Channels: set, Window: 1})
		for channel, bit := range []int{1, 2, 4, 8} {
			if want := set/bit%2 == 1; w.Counts(channel) != want {
				t.Errorf("the set %d: Counts(%d) = %v", set, channel, !want)
			}
		}
	}
}

func TestGoesAlong(t *testing.T) {
	w := window.New(api.Limit{Channels: 1, Window: 3, Cap: 10})
	left(t, w, 10)
	w.Give(4)
	w.Give(1)
	left(t, w, 5)
	w.Pass()
	w.Give(3)
	left(t, w, 2)
	w.Pass()
	left(t, w, 2)
	wait(t, w, 2, 0)
	wait(t, w, 3, 1)
	wait(t, w, 7, 1)
	wait(t, w, 8, 2)
	wait(t, w, 10, 2)
	wait(t, w, 11, -1)
	w.Pass()
	left(t, w, 7)
	w.Pass()
	left(t, w, 10)
}

func TestOneTick(t *testing.T) {
	w := window.New(api.Limit{Channels: 1, Window: 1, Cap: 3})
	w.Give(3)
	left(t, w, 0)
	wait(t, w, 0, 0)
	wait(t, w, 3, 1)
	wait(t, w, 4, -1)
	w.Pass()
	left(t, w, 3)
}

// TestDrawn holds the sum against all that was ever given.
func TestDrawn(t *testing.T) {
	r := rand.New(rand.NewSource(1))
	for range 100 {
		limit := api.Limit{Channels: 1, Window: 1 + r.Intn(20), Cap: 1000}
		w := window.New(limit)
		given := make([]int, 60)
		leftAt := func(tick int) int {
			n := limit.Cap
			for i := max(0, tick-limit.Window+1); i <= min(tick, len(given)-1); i++ {
				n -= given[i]
			}
			return n
		}
		for tick := range given {
			given[tick] = r.Intn(3) * r.Intn(20)
			w.Give(given[tick])
			left(t, w, leftAt(tick))
			amount, ticks := r.Intn(limit.Cap+1), 0
			for leftAt(tick+ticks) < amount {
				ticks++
			}
			wait(t, w, amount, ticks)
			w.Pass()
		}
	}
}
