package drip_test

import (
	"strconv"
	"strings"
	"testing"

	"drip/api"
)

// TestJournalExample is the third one of the document.
func TestJournalExample(t *testing.T) {
	c := api.Config{Channels: 1, Limits: []api.Limit{{Channels: 1, Window: 2, Cap: 5}}}
	p := pumpOf(t, c)
	orders(t, p, 1, 0, 10, 1, 3)
	runs(t, p, 5, [3]int{1, 0, 4}, [3]int{2, 0, 1}, [3]int{3, 0, 4})
	tells(t, p, "1 0 4\n2 0 1\n3 0 4\n= 5\n")
	p = opens(t, c, p.Journal())
	pauses(t, p, 0, api.ErrState)
	hasRoom(t, p, 0, 5)
}

func TestJournalOfNothing(t *testing.T) {
	p := newPump(t, 4, api.Limit{Channels: 15, Window: 3, Cap: 0})
	tells(t, p, "= 0\n")
	sets(t, p, 0, 5, 0) // there is no room for it
	demands(t, p, 1, 1, 5)
	orders(t, p, 2, 2, 5, 0, 9)
	tells(t, p, "= 0\n")
	for now := 1; now <= api.MaxTicks; now++ {
		runs(t, p, 1)
		tells(t, p, "= "+strconv.Itoa(now)+"\n")
	}
	runsNot(t, p, 1, api.ErrMany)
	tells(t, p, "= 400\n")
}

// TestJournalOrder: by ticks, and of one tick by channels; one line for a channel, whatever its dose is made of.
func TestJournalOrder(t *testing.T) {
	p := newPump(t, 4)
	sets(t, p, 3, 7, 2)
	sets(t, p, 1, 1, 0)
	orders(t, p, 1, 0, 9, 1, 2)
	demands(t, p, 2, 3, 20)
	if _, e := p.Run(2); e != api.OK {
		t.Fatalf("P5: Run(2): %d", e)
	}
	tells(t, p, "0 1 1\n0 3 27\n1 0 5\n1 1 1\n1 3 7\n= 2\n")
	pauses(t, p, 1, api.OK)
	if _, e := p.Run(2); e != api.OK {
		t.Fatalf("P5: Run(2): %d", e)
	}
	tells(t, p, "0 1 1\n0 3 27\n1 0 5\n1 1 1\n1 3 7\n2 0 4\n= 4\n")
}

// TestJournalBounds: the greatest numbers, and those that end on digits 0.
func TestJournalBounds(t *testing.T) {
	p := newPump(t, api.MaxChannels)
	for tick, amount := range []int{1, 10, 100, api.MaxDose} {
		demands(t, p, tick+1, 0, amount)
		runs(t, p, 1, [3]int{tick, 0, amount})
	}
	quiet(t, p, 95)
	demands(t, p, 5, 2, 200)
	runs(t, p, 2, [3]int{99, 2, 200})
	quiet(t, p, 298)
	sets(t, p, 3, api.MaxDose, 0)
	runs(t, p, 1, [3]int{399, 3, api.MaxDose})
	tells(t, p, "0 0 1\n1 0 10\n2 0 100\n3 0 1000\n99 2 200\n399 3 1000\n= 400\n")
}

// TestJournalOfAll: no line is lost, however many there are.
func TestJournalOfAll(t *testing.T) {
	p := newPump(t, api.MaxChannels)
	for k := range api.MaxChannels {
		sets(t, p, k, k+1, 0)
	}
	for range api.MaxTicks / api.MaxRun {
		if doses, e := p.Run(api.MaxRun); len(doses) != api.MaxRun*api.MaxChannels || e != api.OK {
			t.Fatalf("P5: Run(%d) = %d doses, %d", api.MaxRun, len(doses), e)
		}
	}
	var want strings.Builder
	for tick := range api.MaxTicks {
		for k := range api.MaxChannels {
			want.WriteString(strconv.Itoa(tick) + " " + strconv.Itoa(k) + " " + strconv.Itoa(k+1) + "\n")
		}
	}
	tells(t, p, want.String()+"= 400\n")
	opens(t, api.Config{Channels: api.MaxChannels}, p.Journal())
}

// TestJournalChangesNothing: asked twice, and between two runs.
func TestJournalChangesNothing(t *testing.T) {
	p := newPump(t, 1, api.Limit{Channels: 1, Window: 3, Cap: 7})
	sets(t, p, 0, 3, 0)
	runs(t, p, 2, [3]int{0, 0, 3}, [3]int{1, 0, 3})
	for range 3 {
		tells(t, p, "0 0 3\n1 0 3\n= 2\n")
	}
	hasRoom(t, p, 0, 1)
	runs(t, p, 2, [3]int{2, 0, 1}, [3]int{3, 0, 3})
	tells(t, p, "0 0 3\n1 0 3\n2 0 1\n3 0 3\n= 4\n")
}
