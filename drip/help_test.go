package drip_test

import (
	"math"
	"slices"
	"testing"

	"drip/api"
	"drip/drip"
)

// tooSmall and tooGreat are wrong for every number that a call takes.
var (
	tooSmall = []int{-1, -2, -1000, math.MinInt32, math.MinInt + 1, math.MinInt}
	tooGreat = []int{api.MaxCap + 1, math.MaxInt32, math.MaxInt - 1, math.MaxInt}
)

// wrong: numbers far off and those that are just beyond the bounds.
func wrong(near ...int) []int {
	return slices.Concat(near, tooSmall, tooGreat)
}

func newPump(t *testing.T, channels int, limits ...api.Limit) *drip.Pump {
	t.Helper()
	return pumpOf(t, api.Config{Channels: channels, Limits: limits})
}

func lockedPump(t *testing.T, channels, lockout int) *drip.Pump {
	t.Helper()
	return pumpOf(t, api.Config{Channels: channels, Lockout: lockout})
}

func pumpOf(t *testing.T, c api.Config) *drip.Pump {
	t.Helper()
	p, e := drip.New(c)
	if p == nil || e != api.OK {
		t.Fatalf("P3: New(%v): %v, %d", c, p, e)
	}
	return p
}

func sets(t *testing.T, p *drip.Pump, channel, rate, ticks int) {
	t.Helper()
	if e := p.Basal(channel, rate, ticks); e != api.OK {
		t.Errorf("P4: Basal(%d, %d, %d): %d", channel, rate, ticks, e)
	}
}

// runs: want has the tick, the channel and the amount of each dose.
func runs(t *testing.T, p *drip.Pump, ticks int, want ...[3]int) {
	t.Helper()
	doses, e := p.Run(ticks)
	var got [][3]int
	for _, d := range doses {
		got = append(got, [3]int{d.Tick, d.Channel, d.Amount})
	}
	if e != api.OK || !slices.Equal(got, want) {
		t.Errorf("P5: Run(%d) = %v, %d, want %v", ticks, got, e, want)
	}
}

func runsNot(t *testing.T, p *drip.Pump, ticks int, want api.Errno) {
	t.Helper()
	if doses, e := p.Run(ticks); len(doses) > 0 || e != want {
		t.Errorf("P5: Run(%d) = %v, %d, want error %d", ticks, doses, e, want)
	}
}

// quiet lets many ticks go by at which nothing is given.
func quiet(t *testing.T, p *drip.Pump, ticks int) {
	t.Helper()
	for ; ticks > 0; ticks -= min(ticks, api.MaxRun) {
		runs(t, p, min(ticks, api.MaxRun))
	}
}

func hasRoom(t *testing.T, p *drip.Pump, channel, want int) {
	t.Helper()
	if n, e := p.Room(channel); n != want || e != api.OK {
		t.Errorf("P6: Room(%d) = %d, %d, want %d", channel, n, e, want)
	}
}

func waits(t *testing.T, p *drip.Pump, channel, amount, want int) {
	t.Helper()
	if n, comes, e := p.Wait(channel, amount); n != want || !comes || e != api.OK {
		t.Errorf("P6: Wait(%d, %d) = %d, %v, %d, want %d", channel, amount, n, comes, e, want)
	}
}

func waitsForEver(t *testing.T, p *drip.Pump, channel, amount int) {
	t.Helper()
	if n, comes, e := p.Wait(channel, amount); n != 0 || comes || e != api.OK {
		t.Errorf("P6: Wait(%d, %d) = %d, %v, %d, want never", channel, amount, n, comes, e)
	}
}

func orders(t *testing.T, p *drip.Pump, number, channel, amount, delay, ticks int) {
	t.Helper()
	if n, e := p.Order(channel, amount, delay, ticks); n != number || e != api.OK {
		t.Errorf("P7: Order(%d, %d, %d, %d) = %d, %d, want %d", channel, amount, delay, ticks, n, e, number)
	}
}

func ordersNot(t *testing.T, p *drip.Pump, channel, amount, delay, ticks int, want api.Errno) {
	t.Helper()
	if n, e := p.Order(channel, amount, delay, ticks); n != 0 || e != want {
		t.Errorf("P7: Order(%d, %d, %d, %d) = %d, %d, want error %d", channel, amount, delay, ticks, n, e, want)
	}
}

func demands(t *testing.T, p *drip.Pump, number, channel, amount int) {
	t.Helper()
	if n, e := p.Demand(channel, amount); n != number || e != api.OK {
		t.Errorf("P7: Demand(%d, %d) = %d, %d, want %d", channel, amount, n, e, number)
	}
}

func demandsNot(t *testing.T, p *drip.Pump, channel, amount int, want api.Errno) {
	t.Helper()
	if n, e := p.Demand(channel, amount); n != 0 || e != want {
		t.Errorf("P7: Demand(%d, %d) = %d, %d, want error %d", channel, amount, n, e, want)
	}
}

// hasRests: of all orders there ever were, from the first one on.
func hasRests(t *testing.T, p *drip.Pump, want ...int) {
	t.Helper()
	for i, w := range want {
		if n, e := p.Rest(i + 1); n != w || e != api.OK {
			t.Errorf("P7: Rest(%d) = %d, %d, want %d", i+1, n, e, w)
		}
	}
	for _, number := range wrong(0, len(want)+1) {
		if n, e := p.Rest(number); n != 0 || e != api.ErrArg {
			t.Errorf("P7: Rest(%d) = %d, %d, want ErrArg", number, n, e)
		}
	}
}

func pauses(t *testing.T, p *drip.Pump, channel int, want api.Errno) {
	t.Helper()
	if e := p.Pause(channel); e != want {
		t.Errorf("P8: Pause(%d): %d, want %d", channel, e, want)
	}
}

func resumes(t *testing.T, p *drip.Pump, channel int, want api.Errno) {
	t.Helper()
	if e := p.Resume(channel); e != want {
		t.Errorf("P8: Resume(%d): %d, want %d", channel, e, want)
	}
}

func tells(t *testing.T, p *drip.Pump, want string) {
	t.Helper()
	if text := p.Journal(); text != want {
		t.Errorf("P9: Journal() = %q, want %q", text, want)
	}
}

// opens: a pump that was opened tells the journal that it was opened with.
func opens(t *testing.T, c api.Config, text string) *drip.Pump {
	t.Helper()
	p, line, e := drip.Open(c, text)
	if p == nil || line != 0 || e != api.OK {
		t.Fatalf("P10: Open(%v, %.80q) = %v, %d, %d", c, text, p, line, e)
	}
	tells(t, p, text)
	return p
}

func opensNot(t *testing.T, c api.Config, text string, want int, why api.Errno) {
	t.Helper()
	if p, line, e := drip.Open(c, text); p != nil || line != want || e != why {
		t.Errorf("P10: Open(%v, %.80q) = %v, %d, %d, want %d, %d", c, text, p, line, e, want, why)
	}
}
