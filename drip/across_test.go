package drip_test

import (
	"math/rand"
	"slices"
	"testing"

	"drip/api"
	"drip/drip"
)

// TestLimitAcrossOpen: P11: a window that began ahead of Open is kept to its end.
func TestLimitAcrossOpen(t *testing.T) {
	c := api.Config{Channels: 2, Limits: []api.Limit{{Channels: 3, Window: 4, Cap: 9}}}
	p := opens(t, c, "0 0 2\n0 1 3\n2 1 4\n= 3\n")
	resumes(t, p, 0, api.OK)
	resumes(t, p, 1, api.OK)
	sets(t, p, 0, api.MaxDose, 0)
	demands(t, p, 1, 1, api.MaxDose)
	runs(t, p, 1)
	hasRests(t, p, api.MaxDose)
	runs(t, p, 5, [3]int{4, 0, 5}, [3]int{6, 0, 4}, [3]int{8, 0, 5})
	hasRests(t, p, api.MaxDose)
	opens(t, c, p.Journal())
	// The longest window there may be, opened at its last tick.
	c = oneLimit(1, 1, api.MaxWindow, 7)
	p = opens(t, c, "0 0 7\n= 99\n")
	resumes(t, p, 0, api.OK)
	sets(t, p, 0, 5, 0)
	waits(t, p, 0, 7, 1)
	runs(t, p, 3, [3]int{100, 0, 5}, [3]int{101, 0, 2})
}

// goesOn opens a pump anew, with the same rates as the one before.
func goesOn(t *testing.T, c api.Config, p *drip.Pump, rates []int) *drip.Pump {
	t.Helper()
	p = opens(t, c, p.Journal())
	for k, rate := range rates {
		resumes(t, p, k, api.OK)
		sets(t, p, k, rate, 0)
	}
	return p
}

// TestOpenedEachTick: P11: a pump that is opened anew ahead of each tick gives what one gives that never was.
func TestOpenedEachTick(t *testing.T) {
	r := rand.New(rand.NewSource(5))
	for range 8 {
		c := drawConfig(r)
		p := pumpOf(t, c)
		var rates []int
		for k := range c.Channels {
			rates = append(rates, 1+r.Intn(30))
			sets(t, p, k, rates[k], 0)
		}
		other := goesOn(t, c, pumpOf(t, c), rates)
		for range 150 {
			want, _ := p.Run(1)
			got, e := other.Run(1)
			if !slices.Equal(got, want) || e != api.OK {
				t.Fatalf("P11: %v, rates %v: opened anew, Run(1) = %v, %d, want %v", c, rates, got, e, want)
			}
			tells(t, other, p.Journal())
			other = goesOn(t, c, other, rates)
		}
	}
}

// amountOf: what a channel was given at a tick.
func amountOf(doses []api.Dose, tick, channel int) int {
	for _, d := range doses {
		if d.Tick == tick && d.Channel == channel {
			return d.Amount
		}
	}
	return 0
}

// couldHaveMore tells whether one more on the channel at the last tick would have broken nothing.
func couldHaveMore(c api.Config, doses []api.Dose, tick, channel int) bool {
	amount := amountOf(doses, tick, channel)
	more := append(slices.Clone(doses), api.Dose{Tick: tick, Channel: channel, Amount: 1})
	return amount < api.MaxDose && !brokenLimit(c, more)
}

// TestNeverLessThanMayBe: P11: what is given is what is wanted, or one more would not do, also behind Open.
func TestNeverLessThanMayBe(t *testing.T) {
	r := rand.New(rand.NewSource(6))
	for range 12 {
		c := drawConfig(r)
		var rates []int
		for range c.Channels {
			rates = append(rates, []int{r.Intn(20), r.Intn(api.MaxDose + 1)}[r.Intn(2)])
		}
		p := goesOn(t, c, pumpOf(t, c), rates)
		var all []api.Dose
		for tick := range 60 {
			doses, _ := p.Run(1)
			all = append(all, doses...)
			for k, rate := range rates {
				if n := amountOf(doses, tick, k); n > rate || n < rate && couldHaveMore(c, all, tick, k) {
					t.Fatalf("P11: %v, rates %v: at tick %d %d on %d, of %v", c, rates, tick, n, k, all)
				}
			}
			if r.Intn(8) == 0 {
				p = goesOn(t, c, p, rates)
			}
		}
		if brokenLimit(c, all) {
			t.Fatalf("P11: a limit of %v is broken by %v", c, all)
		}
	}
}

// TestMostIsMaxDose: P11: of a channel that wants more than MaxDose, with no limit and behind Open too.
func TestMostIsMaxDose(t *testing.T) {
	c := api.Config{Channels: 1}
	p := opens(t, c, "0 0 1000\n= 1\n")
	resumes(t, p, 0, api.OK)
	sets(t, p, 0, api.MaxDose, 0)
	orders(t, p, 1, 0, 3, 0, 3)
	demands(t, p, 2, 0, api.MaxDose)
	runs(t, p, 2, [3]int{1, 0, api.MaxDose}, [3]int{2, 0, api.MaxDose})
	hasRests(t, p, 1, 1)
	opens(t, c, p.Journal())
}
