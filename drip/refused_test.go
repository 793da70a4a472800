package drip_test

import (
	"math"
	"slices"
	"testing"

	"drip/api"
	"drip/drip"
)

var extremes = append([]int{0, 1, 2, 3, 4, 63, 64, 65, 100, 101, 399, 400, 401, 1000, 1001}, wrong()...)

// TestNoPanic: P1: every call ends and none panics, at all numbers.
func TestNoPanic(t *testing.T) {
	for _, a := range extremes {
		for _, b := range extremes {
			for _, c := range extremes {
				drip.New(api.Config{Channels: 4, Limits: []api.Limit{{Channels: a, Window: b, Cap: c}}})
				drip.New(api.Config{Channels: a, Lockout: b, Limits: []api.Limit{{Channels: c, Window: 1, Cap: 1}}})
			}
		}
	}
	p := newPump(t, 4, api.Limit{Channels: 15, Window: 100, Cap: 5000}, api.Limit{Channels: 1, Window: 1, Cap: 0})
	for _, a := range extremes {
		for _, b := range extremes {
			for _, c := range extremes {
				p.Basal(a, b, c)
			}
			p.Wait(a, b)
		}
		p.Room(a)
		p.Run(a)
	}
}

// TestChannelThatIsNone: P1: that is ErrArg, whatever else is asked.
func TestChannelThatIsNone(t *testing.T) {
	for channels := 1; channels <= api.MaxChannels; channels++ {
		p := newPump(t, channels)
		for _, k := range wrong(channels, channels+1, api.MaxChannels) {
			for _, n := range []int{-1, 0, 1, math.MaxInt} {
				if e := p.Basal(k, n, n); e != api.ErrArg {
					t.Errorf("P1: Basal(%d, %d, %d): %d", k, n, n, e)
				}
				if ticks, comes, e := p.Wait(k, n); ticks != 0 || comes || e != api.ErrArg {
					t.Errorf("P1: Wait(%d, %d) = %d, %v, %d", k, n, ticks, comes, e)
				}
			}
			if n, e := p.Room(k); n != 0 || e != api.ErrArg {
				t.Errorf("P1: Room(%d) = %d, %d", k, n, e)
			}
		}
		hasRoom(t, p, channels-1, api.MaxDose)
	}
}

// refuseAll makes calls all of which are refused; the pump has 2 channels and its now is 350.
func refuseAll(t *testing.T, p *drip.Pump) {
	t.Helper()
	for _, n := range wrong(2, 3) {
		if e := p.Basal(n, 1, 1); e != api.ErrArg {
			t.Errorf("P1: Basal(%d, 1, 1): %d", n, e)
		}
	}
	for _, n := range wrong(api.MaxDose + 1) {
		if e := p.Basal(0, n, 1); e != api.ErrArg {
			t.Errorf("P4: Basal(0, %d, 1): %d", n, e)
		}
		if ticks, comes, e := p.Wait(0, n); ticks != 0 || comes || e != api.ErrArg {
			t.Errorf("P6: Wait(0, %d) = %d, %v, %d", n, ticks, comes, e)
		}
	}
	for _, n := range wrong(api.MaxTicks + 1) {
		if e := p.Basal(1, 9, n); e != api.ErrArg {
			t.Errorf("P4: Basal(1, 9, %d): %d", n, e)
		}
	}
	// Of these ErrMany would apply too, but ErrArg is named first.
	for _, n := range wrong(0, api.MaxRun+1, api.MaxTicks) {
		runsNot(t, p, n, api.ErrArg)
	}
	for _, n := range []int{51, 52, api.MaxRun} {
		runsNot(t, p, n, api.ErrMany)
	}
}

// TestRefusedChangesNothing: P1: a pump that has refused goes on like its twin that was not asked.
func TestRefusedChangesNothing(t *testing.T) {
	start := func() *drip.Pump {
		p := newPump(t, 2, api.Limit{Channels: 3, Window: 7, Cap: 20})
		quiet(t, p, 345)
		sets(t, p, 0, 3, 9)
		sets(t, p, 1, 2, 0)
		if _, e := p.Run(5); e != api.OK {
			t.Fatalf("P5: Run(5): %d", e)
		}
		return p
	}
	asked, twin := start(), start()
	refuseAll(t, asked)
	for k := range 2 {
		n, e := asked.Room(k)
		if m, f := twin.Room(k); n != m || e != f {
			t.Errorf("P1: Room(%d) = %d, %d, its twin's: %d, %d", k, n, e, m, f)
		}
	}
	got, e := asked.Run(50)
	want, f := twin.Run(50)
	if !slices.Equal(got, want) || len(want) == 0 || e != api.OK || f != api.OK {
		t.Errorf("P1: Run(50) = %v, %d, its twin's: %v, %d", got, e, want, f)
	}
	runsNot(t, asked, 1, api.ErrMany)
}
