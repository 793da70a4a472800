package drip_test

import (
	"testing"

	"drip/api"
)

// TestExample is the first one of the document.
func TestExample(t *testing.T) {
	p := newPump(t, 2, api.Limit{Channels: 3, Window: 5, Cap: 10}, api.Limit{Channels: 2, Window: 2, Cap: 4})
	sets(t, p, 0, 3, 0)
	sets(t, p, 1, 3, 0)
	runs(t, p, 3, [3]int{0, 0, 3}, [3]int{0, 1, 3}, [3]int{1, 0, 3}, [3]int{1, 1, 1})
	hasRoom(t, p, 0, 0)
	waits(t, p, 0, 6, 2)
	runs(t, p, 3, [3]int{5, 0, 3}, [3]int{5, 1, 3})
}

func TestBasalBounds(t *testing.T) {
	p := newPump(t, 1)
	for _, rate := range []int{0, 1, api.MaxDose} {
		for _, ticks := range []int{0, 1, api.MaxTicks} {
			sets(t, p, 0, rate, ticks)
		}
	}
	for _, n := range wrong(api.MaxDose + 1) {
		if e := p.Basal(0, n, 0); e != api.ErrArg {
			t.Errorf("P4: Basal(0, %d, 0): %d", n, e)
		}
	}
	for _, n := range wrong(api.MaxTicks + 1) {
		if e := p.Basal(0, 0, n); e != api.ErrArg {
			t.Errorf("P4: Basal(0, 0, %d): %d", n, e)
		}
	}
}

func TestBasalEnds(t *testing.T) {
	p := newPump(t, 2)
	sets(t, p, 0, 5, 1)
	sets(t, p, 1, 7, 3)
	runs(t, p, 6, [3]int{0, 0, 5}, [3]int{0, 1, 7}, [3]int{1, 1, 7}, [3]int{2, 1, 7})
	// The ticks of a rate are counted from now, not from 0.
	sets(t, p, 0, 6, 2)
	runs(t, p, 1, [3]int{6, 0, 6})
	runs(t, p, 4, [3]int{7, 0, 6})
	sets(t, p, 0, 4, 1)
	runs(t, p, 1, [3]int{11, 0, 4})
	sets(t, p, 0, 3, 1)
	runs(t, p, 2, [3]int{12, 0, 3})
}

func TestBasalTillTheNext(t *testing.T) {
	p := newPump(t, 1)
	sets(t, p, 0, api.MaxDose, 0)
	given := 0
	for range api.MaxTicks / api.MaxRun {
		doses, _ := p.Run(api.MaxRun)
		for _, d := range doses {
			given += d.Amount
		}
	}
	if given != api.MaxDose*api.MaxTicks {
		t.Errorf("P4: a rate of %d has given %d in %d ticks", api.MaxDose, given, api.MaxTicks)
	}
}

// TestBasalAnew: the end of a rate that another one has replaced does not end that.
func TestBasalAnew(t *testing.T) {
	p := newPump(t, 2)
	sets(t, p, 0, 5, 2)
	sets(t, p, 0, 6, 0)
	sets(t, p, 1, 1, 2)
	sets(t, p, 1, 2, 4)
	runs(t, p, 5, [3]int{0, 0, 6}, [3]int{0, 1, 2}, [3]int{1, 0, 6}, [3]int{1, 1, 2}, [3]int{2, 0, 6}, [3]int{2, 1, 2}, [3]int{3, 0, 6}, [3]int{3, 1, 2}, [3]int{4, 0, 6})
	sets(t, p, 0, 7, 4)
	runs(t, p, 1, [3]int{5, 0, 7})
	sets(t, p, 0, 8, 1)
	runs(t, p, 5, [3]int{6, 0, 8})
	sets(t, p, 0, 9, 0)
	sets(t, p, 0, 0, 0)
	quiet(t, p, 5)
	// The end of one channel's rate is not that of another's.
	sets(t, p, 0, 1, 1)
	sets(t, p, 1, 1, 2)
	sets(t, p, 0, 2, 2)
	runs(t, p, 3, [3]int{16, 0, 2}, [3]int{16, 1, 1}, [3]int{17, 0, 2}, [3]int{17, 1, 1})
}

func TestRunBounds(t *testing.T) {
	p := newPump(t, 1)
	for _, n := range wrong(0, api.MaxRun+1, api.MaxTicks) {
		runsNot(t, p, n, api.ErrArg)
	}
	quiet(t, p, 301)
	runsNot(t, p, 100, api.ErrMany)
	runsNot(t, p, 101, api.ErrArg)
	quiet(t, p, 98)
	runsNot(t, p, 2, api.ErrMany)
	sets(t, p, 0, 1, 1)
	runs(t, p, 1, [3]int{399, 0, 1})
	runsNot(t, p, 1, api.ErrMany)
	runsNot(t, p, 100, api.ErrMany)
	runsNot(t, p, 0, api.ErrArg)
}

// TestChannelsInTurn: what an earlier channel is given at a tick is not left for a later one.
func TestChannelsInTurn(t *testing.T) {
	p := newPump(t, 4, api.Limit{Channels: 15, Window: 1, Cap: 10}, api.Limit{Channels: 6, Window: 2, Cap: 5})
	for k, rate := range []int{4, 3, 3, 9} {
		sets(t, p, k, rate, 0)
	}
	runs(t, p, 2, [3]int{0, 0, 4}, [3]int{0, 1, 3}, [3]int{0, 2, 2}, [3]int{0, 3, 1}, [3]int{1, 0, 4}, [3]int{1, 3, 6})
}

// TestRoomIsTheLeast: of all limits that count, and of MaxDose.
func TestRoomIsTheLeast(t *testing.T) {
	p := newPump(t, 3, api.Limit{Channels: 3, Window: 10, Cap: 1500}, api.Limit{Channels: 2, Window: 5, Cap: 700}, api.Limit{Channels: 1, Window: 1, Cap: 999})
	for k, want := range []int{999, 700, 1000} {
		hasRoom(t, p, k, want)
	}
	sets(t, p, 1, 600, 1)
	sets(t, p, 2, 1000, 1)
	runs(t, p, 1, [3]int{0, 1, 600}, [3]int{0, 2, 1000})
	for k, want := range []int{900, 100, 1000} {
		hasRoom(t, p, k, want)
	}
	quiet(t, p, 3)
	hasRoom(t, p, 1, 100)
	quiet(t, p, 1)
	hasRoom(t, p, 1, 700)
	hasRoom(t, p, 0, 900)
	quiet(t, p, 5)
	hasRoom(t, p, 0, 999)
}

func TestCaps(t *testing.T) {
	p := newPump(t, 2, api.Limit{Channels: 1, Window: 1, Cap: 0}, api.Limit{Channels: 2, Window: 100, Cap: api.MaxCap})
	hasRoom(t, p, 0, 0)
	hasRoom(t, p, 1, api.MaxDose)
	sets(t, p, 0, 1, 0)
	quiet(t, p, 50)
	waits(t, p, 0, 0, 0)
	waitsForEver(t, p, 0, 1)
	waitsForEver(t, p, 0, api.MaxDose)
	waits(t, p, 1, api.MaxDose, 0)
}

func TestWaitBounds(t *testing.T) {
	p := newPump(t, 1)
	waits(t, p, 0, 0, 0)
	waits(t, p, 0, api.MaxDose, 0)
	for _, n := range wrong(api.MaxDose + 1) {
		if ticks, comes, e := p.Wait(0, n); ticks != 0 || comes || e != api.ErrArg {
			t.Errorf("P6: Wait(0, %d) = %d, %v, %d", n, ticks, comes, e)
		}
	}
}

// TestWaitForAllLimits: the longest wait of the limits that count for the channel, and of no other one.
func TestWaitForAllLimits(t *testing.T) {
	p := newPump(t, 2, api.Limit{Channels: 1, Window: 4, Cap: 10}, api.Limit{Channels: 3, Window: 20, Cap: 30}, api.Limit{Channels: 2, Window: 50, Cap: 9})
	sets(t, p, 0, 10, 1)
	sets(t, p, 1, 9, 1)
	runs(t, p, 1, [3]int{0, 0, 10}, [3]int{0, 1, 9})
	waits(t, p, 0, 0, 0)
	waits(t, p, 0, 1, 3)
	waits(t, p, 0, 10, 3)
	waitsForEver(t, p, 0, 11)
	waits(t, p, 1, 9, 49)
	waitsForEver(t, p, 1, 10)
	quiet(t, p, 3)
	sets(t, p, 0, 10, 1)
	runs(t, p, 1, [3]int{4, 0, 10})
	waits(t, p, 0, 1, 3)
	waits(t, p, 0, 10, 15)
	// Asking lets no time go by.
	waits(t, p, 0, 10, 15)
	hasRoom(t, p, 0, 0)
}

// TestWaitThinksOfNoRate: nothing is given till then, though a rate goes on.
func TestWaitThinksOfNoRate(t *testing.T) {
	p := newPump(t, 1, api.Limit{Channels: 1, Window: 3, Cap: 6})
	sets(t, p, 0, 2, 0)
	runs(t, p, 3, [3]int{0, 0, 2}, [3]int{1, 0, 2}, [3]int{2, 0, 2})
	waits(t, p, 0, 2, 0)
	waits(t, p, 0, 4, 1)
	waits(t, p, 0, 6, 2)
}

// TestWaitBeyondTheLastTick: ticks beyond MaxTicks count as others do.
func TestWaitBeyondTheLastTick(t *testing.T) {
	p := newPump(t, 1, api.Limit{Channels: 1, Window: api.MaxWindow, Cap: 8})
	quiet(t, p, api.MaxTicks-1)
	sets(t, p, 0, 5, 0)
	runs(t, p, 1, [3]int{399, 0, 5})
	hasRoom(t, p, 0, 3)
	waits(t, p, 0, 3, 0)
	waits(t, p, 0, 4, 99)
	waits(t, p, 0, 8, 99)
	waitsForEver(t, p, 0, 9)
	sets(t, p, 0, 5, api.MaxTicks)
	runsNot(t, p, 1, api.ErrMany)
}
