package drip_test

import (
	"math/rand"
	"slices"
	"testing"

	"drip/api"
	"drip/drip"
)

// plain is the pump as the document says it, with all that was ever given added up anew each time.
type plain struct {
	config api.Config
	now    int
	rates  [api.MaxChannels]int
	ends   [api.MaxChannels]int
	given  []api.Dose
}

func in(set, channel int) bool {
	return set>>channel&1 == 1
}

func (p *plain) roomAt(tick, channel int) int {
	room := api.MaxDose
	for _, l := range p.config.Limits {
		left := l.Cap
		for _, d := range p.given {
			if in(l.Channels, d.Channel) && d.Tick > tick-l.Window {
				left -= d.Amount
			}
		}
		if in(l.Channels, channel) {
			room = min(room, left)
		}
	}
	return room
}

func (p *plain) basal(channel, rate, ticks int) api.Errno {
	if channel < 0 || channel >= p.config.Channels || rate < 0 || rate > api.MaxDose || ticks < 0 || ticks > api.MaxTicks {
		return api.ErrArg
	}
	p.rates[channel] = rate
	p.ends[channel] = p.now + ticks
	if ticks == 0 {
		p.ends[channel] = 2 * api.MaxTicks
	}
	return api.OK
}

func (p *plain) run(ticks int) ([]api.Dose, api.Errno) {
	if ticks < 1 || ticks > api.MaxRun {
		return nil, api.ErrArg
	}
	if p.now+ticks > api.MaxTicks {
		return nil, api.ErrMany
	}
	before := len(p.given)
	for range ticks {
		for k := range p.config.Channels {
			if p.now >= p.ends[k] {
				continue
			}
			if n := min(p.rates[k], p.roomAt(p.now, k)); n > 0 {
				p.given = append(p.given, api.Dose{Tick: p.now, Channel: k, Amount: n})
			}
		}
		p.now++
	}
	return p.given[before:], api.OK
}

func (p *plain) wait(channel, amount int) (int, bool) {
	for n := range 2 * api.MaxWindow {
		if p.roomAt(p.now+n, channel) >= amount {
			return n, true
		}
	}
	return 0, false
}

func drawConfig(r *rand.Rand) api.Config {
	c := api.Config{Channels: 1 + r.Intn(api.MaxChannels)}
	for range r.Intn(api.MaxLimits + 1) {
		window := 1 + r.Intn([]int{3, 12, api.MaxWindow}[r.Intn(3)])
		c.Limits = append(c.Limits, api.Limit{Channels: 1 + r.Intn(1<<c.Channels-1), Window: window, Cap: r.Intn(20 + 10*window)})
	}
	return c
}

func sameAnswer(t *testing.T, r *rand.Rand, p *drip.Pump, q *plain) {
	t.Helper()
	channel := r.Intn(q.config.Channels)
	switch r.Intn(4) {
	case 0:
		k, rate, ticks := r.Intn(q.config.Channels+1), r.Intn(40)-1, max(0, r.Intn(60)-20)
		if got, want := p.Basal(k, rate, ticks), q.basal(k, rate, ticks); got != want {
			t.Fatalf("P4: Basal(%d, %d, %d) = %d, want %d", k, rate, ticks, got, want)
		}
	case 1:
		ticks := r.Intn(12)
		got, e := p.Run(ticks)
		want, f := q.run(ticks)
		if !slices.Equal(got, want) || e != f {
			t.Fatalf("P5: %v: Run(%d) = %v, %d, want %v, %d", q.config, ticks, got, e, want, f)
		}
	case 2:
		n, e := p.Room(channel)
		if want := q.roomAt(q.now, channel); n != want || e != api.OK {
			t.Fatalf("P6: %v: Room(%d) = %d, %d, want %d", q.config, channel, n, e, want)
		}
	case 3:
		amount := r.Intn(1 + r.Intn(api.MaxDose+1))
		n, comes, e := p.Wait(channel, amount)
		if m, yes := q.wait(channel, amount); n != m || comes != yes || e != api.OK {
			t.Fatalf("P6: %v: Wait(%d, %d) = %d, %v, %d, want %d, %v", q.config, channel, amount, n, comes, e, m, yes)
		}
	}
}

// brokenLimit looks at every window there is, not only at those that the pump looks at.
func brokenLimit(c api.Config, doses []api.Dose) bool {
	for _, l := range c.Limits {
		for first := range api.MaxTicks {
			sum := 0
			for _, d := range doses {
				if in(l.Channels, d.Channel) && d.Tick >= first && d.Tick < first+l.Window {
					sum += d.Amount
				}
			}
			if sum > l.Cap {
				return true
			}
		}
	}
	return false
}

// TestDrawn: P4 to P6: the pump answers as the plain one, and no limit is broken in any window.
func TestDrawn(t *testing.T) {
	r := rand.New(rand.NewSource(1))
	for range 60 {
		q := &plain{config: drawConfig(r)}
		p := newPump(t, q.config.Channels, q.config.Limits...)
		for range 200 {
			sameAnswer(t, r, p, q)
		}
		if brokenLimit(q.config, q.given) {
			t.Fatalf("P5: a limit of %v is broken by %v", q.config, q.given)
		}
	}
}
