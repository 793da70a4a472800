package drip_test

import (
	"fmt"
	"math"
	"slices"
	"testing"

	"drip/api"
	"drip/drip"
)

var extremes = append([]int{0, 1, 2, 3, 4, 63, 64, 65, 100, 101, 399, 400, 401, 1000, 1001}, wrong()...)

// TestNoPanic: P1: every call ends and none panics, at all numbers.
func TestNoPanic(t *testing.T) {
	for _, a := range extremes {
		for _, b := range extremes {
			for _, c := range extremes {
				drip.New(api.Config{Channels: 4, Limits: []api.Limit{{Channels: a, Window: b, Cap: c}}})
				drip.New(api.Config{Channels: a, Lockout: b, Limits: []api.Limit{{Channels: c, Window: 1, Cap: 1}}})
			}
		}
	}
	p := newPump(t, 4, api.Limit{Channels: 15, Window: 100, Cap: 5000}, api.Limit{Channels: 1, Window: 1, Cap: 0})
	for _, a := range extremes {
		for _, b := range extremes {
			for _, c := range extremes {
				p.Basal(a, b, c)
				p.Order(a, b, c, c)
				orderAndRun(t, a, b, c)
				openNumbers(a, b, c)
			}
			p.Wait(a, b)
			p.Demand(a, b)
		}
		p.Room(a)
		p.Rest(a)
		p.Pause(a)
		p.Resume(a)
		p.Run(a)
	}
}

// orderAndRun takes a new pump each time, as one that is full would refuse most of it.
func orderAndRun(t *testing.T, amount, delay, ticks int) {
	t.Helper()
	p := newPump(t, 1)
	if _, e := p.Order(0, amount, delay, ticks); e != api.OK {
		return
	}
	for range api.MaxTicks / api.MaxRun {
		p.Run(api.MaxRun)
	}
}

func openNumbers(a, b, c int) {
	drip.Open(api.Config{Channels: 4}, fmt.Sprintf("%d %d %d\n= %d\n", a, b, c, a+1))
	drip.Open(api.Config{Channels: a, Lockout: b}, fmt.Sprintf("= %d\n", c))
	drip.Open(api.Config{Channels: 4, Limits: []api.Limit{{Channels: a, Window: b, Cap: c}}}, "0 0 1\n= 400\n")
}

// TestChannelThatIsNone: P1: that is ErrArg, whatever else is asked.
func TestChannelThatIsNone(t *testing.T) {
	for channels := 1; channels <= api.MaxChannels; channels++ {
		p := newPump(t, channels)
		for _, k := range wrong(channels, channels+1, api.MaxChannels) {
			for _, n := range []int{-1, 0, 1, math.MaxInt} {
				if e := p.Basal(k, n, n); e != api.ErrArg {
					t.Errorf("P1: Basal(%d, %d, %d): %d", k, n, n, e)
				}
				if ticks, comes, e := p.Wait(k, n); ticks != 0 || comes || e != api.ErrArg {
					t.Errorf("P1: Wait(%d, %d) = %d, %v, %d", k, n, ticks, comes, e)
				}
				ordersNot(t, p, k, n, n, n, api.ErrArg)
				demandsNot(t, p, k, n, api.ErrArg)
			}
			if n, e := p.Room(k); n != 0 || e != api.ErrArg {
				t.Errorf("P1: Room(%d) = %d, %d", k, n, e)
			}
			pauses(t, p, k, api.ErrArg)
			resumes(t, p, k, api.ErrArg)
		}
		hasRoom(t, p, channels-1, api.MaxDose)
	}
}

// refuseAll makes calls all of which are refused; the pump has 2 channels, of which the second one rests, and its now is 350.
func refuseAll(t *testing.T, p *drip.Pump) {
	t.Helper()
	for _, n := range wrong(2, 3) {
		if e := p.Basal(n, 1, 1); e != api.ErrArg {
			t.Errorf("P1: Basal(%d, 1, 1): %d", n, e)
		}
	}
	for _, n := range wrong(api.MaxDose + 1) {
		if e := p.Basal(0, n, 1); e != api.ErrArg {
			t.Errorf("P4: Basal(0, %d, 1): %d", n, e)
		}
		if ticks, comes, e := p.Wait(0, n); ticks != 0 || comes || e != api.ErrArg {
			t.Errorf("P6: Wait(0, %d) = %d, %v, %d", n, ticks, comes, e)
		}
	}
	for _, n := range wrong(api.MaxTicks + 1) {
		if e := p.Basal(1, 9, n); e != api.ErrArg {
			t.Errorf("P4: Basal(1, 9, %d): %d", n, e)
		}
	}
	// Of these ErrMany would apply too, but ErrArg is named first.
	for _, n := range wrong(0, api.MaxRun+1, api.MaxTicks) {
		runsNot(t, p, n, api.ErrArg)
	}
	for _, n := range []int{51, 52, api.MaxRun} {
		runsNot(t, p, n, api.ErrMany)
	}
	resumes(t, p, 0, api.ErrState)
	pauses(t, p, 1, api.ErrState)
	refuseOrders(t, p)
}

// refuseOrders: the pump has 2 channels, of which the first one is locked, and MaxOrders orders that are not over.
func refuseOrders(t *testing.T, p *drip.Pump) {
	t.Helper()
	for _, n := range wrong(0) {
		ordersNot(t, p, 0, n, 0, 1, api.ErrArg)
		ordersNot(t, p, 0, 1, 0, n, api.ErrArg)
		demandsNot(t, p, 0, n, api.ErrArg)
		demandsNot(t, p, 1, n, api.ErrArg)
	}
	for _, n := range wrong() {
		ordersNot(t, p, 0, 1, n, 1, api.ErrArg)
		ordersNot(t, p, n, 1, 1, 1, api.ErrArg)
		demandsNot(t, p, n, 1, api.ErrArg)
	}
	ordersNot(t, p, 0, 1, 0, 1, api.ErrMany)
	ordersNot(t, p, 1, 1, 0, 1, api.ErrMany)
	demandsNot(t, p, 0, 1, api.ErrLock)
	demandsNot(t, p, 1, 1, api.ErrMany)
}

// busyPump: see what refuseAll asks for.
func busyPump(t *testing.T) *drip.Pump {
	t.Helper()
	p := pumpOf(t, api.Config{Channels: 2, Limits: []api.Limit{{Channels: 3, Window: 7, Cap: 20}}, Lockout: 9})
	quiet(t, p, 345)
	sets(t, p, 0, 3, 9)
	sets(t, p, 1, 2, 0)
	demands(t, p, 1, 0, 2)
	if _, e := p.Run(5); e != api.OK {
		t.Fatalf("P5: Run(5): %d", e)
	}
	for number := 2; number <= api.MaxOrders+1; number++ {
		orders(t, p, number, number%2, 5, number, 3)
	}
	pauses(t, p, 1, api.OK)
	return p
}

// TestRefusedChangesNothing: P1: a pump that has refused goes on like its twin that was not asked.
func TestRefusedChangesNothing(t *testing.T) {
	asked, twin := busyPump(t), busyPump(t)
	refuseAll(t, asked)
	tells(t, asked, twin.Journal())
	for k := range 2 {
		n, e := asked.Room(k)
		if m, f := twin.Room(k); n != m || e != f {
			t.Errorf("P1: Room(%d) = %d, %d, its twin's: %d, %d", k, n, e, m, f)
		}
	}
	goOnAlike(t, asked, twin, 4)
	resumes(t, asked, 1, api.OK)
	resumes(t, twin, 1, api.OK)
	demandsNot(t, asked, 1, 3, api.ErrMany)
	goOnAlike(t, asked, twin, 6)
	demands(t, asked, 10, 1, 3)
	demands(t, twin, 10, 1, 3)
	demands(t, asked, 11, 0, 3)
	demands(t, twin, 11, 0, 3)
	goOnAlike(t, asked, twin, 40)
	for number := 1; number <= 11; number++ {
		n, e := asked.Rest(number)
		if m, f := twin.Rest(number); n != m || e != f {
			t.Errorf("P1: Rest(%d) = %d, %d, its twin's: %d, %d", number, n, e, m, f)
		}
	}
	runsNot(t, asked, 1, api.ErrMany)
	tells(t, asked, twin.Journal())
}

func goOnAlike(t *testing.T, asked, twin *drip.Pump, ticks int) {
	t.Helper()
	got, e := asked.Run(ticks)
	want, f := twin.Run(ticks)
	if !slices.Equal(got, want) || len(want) == 0 || e != api.OK || f != api.OK {
		t.Errorf("P1: Run(%d) = %v, %d, its twin's: %v, %d", ticks, got, e, want, f)
	}
}
