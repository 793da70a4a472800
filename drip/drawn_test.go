package drip_test

import (
	"fmt"
	"math/rand"
	"slices"
	"testing"

	"drip/api"
	"drip/drip"
)

// plain is the pump as the document says it, with all that was ever given added up anew each time.
type plain struct {
	config  api.Config
	now     int
	rates   [api.MaxChannels]int
	ends    [api.MaxChannels]int
	resting [api.MaxChannels]bool
	demands [api.MaxChannels][]int // the ticks at which one was answered OK
	orders  []plainOrder
	given   []api.Dose
}

type plainOrder struct {
	channel, rest, first, last int
}

func in(set, channel int) bool {
	return set>>channel&1 == 1
}

func (p *plain) roomAt(tick, channel int) int {
	room := api.MaxDose
	for _, l := range p.config.Limits {
		left := l.Cap
		for _, d := range p.given {
			if in(l.Channels, d.Channel) && d.Tick > tick-l.Window {
				left -= d.Amount
			}
		}
		if in(l.Channels, channel) {
			room = min(room, left)
		}
	}
	return room
}

func (p *plain) basal(channel, rate, ticks int) api.Errno {
	if channel < 0 || channel >= p.config.Channels || rate < 0 || rate > api.MaxDose || ticks < 0 || ticks > api.MaxTicks {
		return api.ErrArg
	}
	p.rates[channel] = rate
	p.ends[channel] = p.now + ticks
	if ticks == 0 {
		p.ends[channel] = 2 * api.MaxTicks
	}
	return api.OK
}

func (p *plain) run(ticks int) ([]api.Dose, api.Errno) {
	if ticks < 1 || ticks > api.MaxRun {
		return nil, api.ErrArg
	}
	if p.now+ticks > api.MaxTicks {
		return nil, api.ErrMany
	}
	before := len(p.given)
	for range ticks {
		for k := range p.config.Channels {
			if n := min(p.wants(k), p.roomAt(p.now, k)); n > 0 {
				p.given = append(p.given, api.Dose{Tick: p.now, Channel: k, Amount: n})
				p.share(k, n)
			}
		}
		p.now++
	}
	return p.given[before:], api.OK
}

// part is the least amount that is enough, if all the ticks that are left have it.
func (p *plain) part(number, channel int) int {
	o := p.orders[number]
	if o.channel != channel || p.now < o.first || p.now > o.last {
		return 0
	}
	part := 0
	for part*(o.last-p.now+1) < o.rest {
		part++
	}
	return part
}

func (p *plain) wants(channel int) int {
	if p.resting[channel] {
		return 0
	}
	n := 0
	if p.now < p.ends[channel] {
		n = p.rates[channel]
	}
	for number := range p.orders {
		n += p.part(number, channel)
	}
	return n
}

func (p *plain) share(channel, amount int) {
	for number := range p.orders {
		n := min(amount, p.part(number, channel))
		p.orders[number].rest -= n
		amount -= n
	}
}

func (p *plain) order(channel, amount, delay, ticks int) (int, api.Errno) {
	if channel < 0 || channel >= p.config.Channels || amount < 1 || amount > api.MaxDose || delay < 0 || delay > api.MaxTicks || ticks < 1 || ticks > api.MaxTicks {
		return 0, api.ErrArg
	}
	notOver := 0
	for _, o := range p.orders {
		if p.now <= o.last {
			notOver++
		}
	}
	if notOver >= api.MaxOrders {
		return 0, api.ErrMany
	}
	p.orders = append(p.orders, plainOrder{channel: channel, rest: amount, first: p.now + delay, last: p.now + delay + ticks - 1})
	return len(p.orders), api.OK
}

func (p *plain) demand(channel, amount int) (int, api.Errno) {
	if channel < 0 || channel >= p.config.Channels || amount < 1 || amount > api.MaxDose {
		return 0, api.ErrArg
	}
	for _, tick := range p.demands[channel] {
		if p.now-tick < p.config.Lockout {
			return 0, api.ErrLock
		}
	}
	number, e := p.order(channel, amount, 0, 1)
	if e == api.OK {
		p.demands[channel] = append(p.demands[channel], p.now)
	}
	return number, e
}

func (p *plain) rest(number int) (int, api.Errno) {
	if number < 1 || number > len(p.orders) {
		return 0, api.ErrArg
	}
	return p.orders[number-1].rest, api.OK
}

func (p *plain) rests(channel int, yes bool) api.Errno {
	if channel < 0 || channel >= p.config.Channels {
		return api.ErrArg
	}
	if p.resting[channel] == yes {
		return api.ErrState
	}
	p.resting[channel] = yes
	return api.OK
}

func (p *plain) wait(channel, amount int) (int, bool) {
	for n := range 2 * api.MaxWindow {
		if p.roomAt(p.now+n, channel) >= amount {
			return n, true
		}
	}
	return 0, false
}

func drawConfig(r *rand.Rand) api.Config {
	c := api.Config{Channels: 1 + r.Intn(api.MaxChannels), Lockout: r.Intn(12)}
	for range r.Intn(api.MaxLimits + 1) {
		window := 1 + r.Intn([]int{3, 12, api.MaxWindow}[r.Intn(3)])
		c.Limits = append(c.Limits, api.Limit{Channels: 1 + r.Intn(1<<c.Channels-1), Window: window, Cap: r.Intn(20 + 10*window)})
	}
	return c
}

func sameAnswer(t *testing.T, r *rand.Rand, p *drip.Pump, q *plain) {
	t.Helper()
	channel := r.Intn(q.config.Channels)
	switch r.Intn(8) {
	case 0:
		k, rate, ticks := r.Intn(q.config.Channels+1), r.Intn(40)-1, max(0, r.Intn(60)-20)
		if got, want := p.Basal(k, rate, ticks), q.basal(k, rate, ticks); got != want {
			t.Fatalf("P4: Basal(%d, %d, %d) = %d, want %d", k, rate, ticks, got, want)
		}
	case 1:
		ticks := r.Intn(12)
		got, e := p.Run(ticks)
		want, f := q.run(ticks)
		if !slices.Equal(got, want) || e != f {
			t.Fatalf("P5: %v: Run(%d) = %v, %d, want %v, %d", q.config, ticks, got, e, want, f)
		}
	case 2:
		n, e := p.Room(channel)
		if want := q.roomAt(q.now, channel); n != want || e != api.OK {
			t.Fatalf("P6: %v: Room(%d) = %d, %d, want %d", q.config, channel, n, e, want)
		}
	case 3:
		amount := r.Intn(1 + r.Intn(api.MaxDose+1))
		n, comes, e := p.Wait(channel, amount)
		if m, yes := q.wait(channel, amount); n != m || comes != yes || e != api.OK {
			t.Fatalf("P6: %v: Wait(%d, %d) = %d, %v, %d, want %d, %v", q.config, channel, amount, n, comes, e, m, yes)
		}
	default:
		sameOrders(t, r, p, q)
	}
}

func sameOrders(t *testing.T, r *rand.Rand, p *drip.Pump, q *plain) {
	t.Helper()
	channel, amount := r.Intn(q.config.Channels+1), r.Intn(1+r.Intn(200))
	switch r.Intn(5) {
	case 0:
		delay, ticks := r.Intn(20)-1, r.Intn(12)
		n, e := p.Order(channel, amount, delay, ticks)
		if m, f := q.order(channel, amount, delay, ticks); n != m || e != f {
			t.Fatalf("P7: Order(%d, %d, %d, %d) = %d, %d, want %d, %d", channel, amount, delay, ticks, n, e, m, f)
		}
	case 1:
		n, e := p.Demand(channel, amount)
		if m, f := q.demand(channel, amount); n != m || e != f {
			t.Fatalf("P7: Demand(%d, %d) = %d, %d, want %d, %d", channel, amount, n, e, m, f)
		}
	case 2:
		for number := range len(q.orders) + 2 {
			n, e := p.Rest(number)
			if m, f := q.rest(number); n != m || e != f {
				t.Fatalf("P7: Rest(%d) = %d, %d, want %d, %d", number, n, e, m, f)
			}
		}
	case 3:
		if e, f := p.Pause(channel), q.rests(channel, true); e != f {
			t.Fatalf("P8: Pause(%d): %d, want %d", channel, e, f)
		}
	case 4:
		if e, f := p.Resume(channel), q.rests(channel, false); e != f {
			t.Fatalf("P8: Resume(%d): %d, want %d", channel, e, f)
		}
	}
}

// brokenLimit looks at every window there is, not only at those that the pump looks at.
func brokenLimit(c api.Config, doses []api.Dose) bool {
	for _, l := range c.Limits {
		for first := range api.MaxTicks {
			sum := 0
			for _, d := range doses {
				if in(l.Channels, d.Channel) && d.Tick >= first && d.Tick < first+l.Window {
					sum += d.Amount
				}
			}
			if sum > l.Cap {
				return true
			}
		}
	}
	return false
}

// reopened: P9 and P10: the journal tells what the plain pump was given; a pump that is opened with it goes on as the plain one with nothing set.
func reopened(t *testing.T, r *rand.Rand, p *drip.Pump, q *plain) (*drip.Pump, *plain) {
	t.Helper()
	text := ""
	for _, d := range q.given {
		text += fmt.Sprintf("%d %d %d\n", d.Tick, d.Channel, d.Amount)
	}
	tells(t, p, fmt.Sprintf("%s= %d\n", text, q.now))
	q = &plain{config: q.config, now: q.now, given: q.given}
	p = opens(t, q.config, p.Journal())
	for k := range q.config.Channels {
		q.resting[k] = true
		if r.Intn(4) > 0 {
			q.resting[k] = false
			resumes(t, p, k, api.OK)
		}
	}
	return p, q
}

// TestDrawn: P4 to P11: the pump answers as the plain one, and no limit is broken in any window.
func TestDrawn(t *testing.T) {
	r := rand.New(rand.NewSource(1))
	for range 60 {
		q := &plain{config: drawConfig(r)}
		p := pumpOf(t, q.config)
		for range 400 {
			sameAnswer(t, r, p, q)
			if r.Intn(100) == 0 {
				p, q = reopened(t, r, p, q)
			}
		}
		if brokenLimit(q.config, q.given) {
			t.Fatalf("P11: a limit of %v is broken by %v", q.config, q.given)
		}
	}
}
