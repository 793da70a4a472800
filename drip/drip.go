// Package drip: a pump, and what it may give: see DOC.md.
package drip

import (
	"drip/agenda"
	"drip/api"
	"drip/record"
	"drip/window"
)

// Pump is one.
type Pump struct {
	now      int
	lockout  int
	channels []channelState
	windows  []*window.Window
	later    agenda.Agenda
	orders   []*order   // all there ever were, by their numbers: the rest of one that is over may still be asked for
	notOver  int        // how many of them are not over
	given    []api.Dose // all there ever were, in order, those ahead of Open too
}

// New makes a pump (P3).
func New(c api.Config) (*Pump, api.Errno) {
	if !configHolds(c) {
		return nil, api.ErrArg
	}
	p := &Pump{lockout: c.Lockout, channels: make([]channelState, c.Channels)}
	for _, l := range c.Limits {
		p.windows = append(p.windows, window.New(l))
	}
	return p, api.OK
}

// Basal sets a channel's rate (P4).
func (p *Pump) Basal(channel int, rate int, ticks int) api.Errno {
	if !p.hasChannel(channel) || !within(rate, 0, api.MaxDose) || !within(ticks, 0, api.MaxTicks) {
		return api.ErrArg
	}
	c := &p.channels[channel]
	p.later.Cancel(c.end) // or the end of the rate before would end this one
	c.rate, c.end = rate, nil
	if ticks > 0 {
		c.end = p.later.Add(p.now+ticks, func() { c.rate, c.end = 0, nil })
	}
	return api.OK
}

// Run lets time go by (P5).
func (p *Pump) Run(ticks int) ([]api.Dose, api.Errno) {
	if !within(ticks, 1, api.MaxRun) {
		return nil, api.ErrArg
	}
	if p.now+ticks > api.MaxTicks {
		return nil, api.ErrMany
	}
	before := len(p.given)
	for range ticks {
		p.giveTick()
		p.pass()
	}
	var doses []api.Dose
	return append(doses, p.given[before:]...), api.OK
}

// Room tells how much could be given now (P6).
func (p *Pump) Room(channel int) (int, api.Errno) {
	if !p.hasChannel(channel) {
		return 0, api.ErrArg
	}
	return p.room(channel), api.OK
}

// Wait tells how long it takes till so much could be given (P6).
func (p *Pump) Wait(channel int, amount int) (int, bool, api.Errno) {
	if !p.hasChannel(channel) || !within(amount, 0, api.MaxDose) {
		return 0, false, api.ErrArg
	}
	ticks, comes := p.wait(channel, amount)
	return ticks, comes, api.OK
}

// Order orders an amount (P7).
func (p *Pump) Order(channel int, amount int, delay int, ticks int) (int, api.Errno) {
	if !p.hasChannel(channel) || !within(amount, 1, api.MaxDose) || !within(delay, 0, api.MaxTicks) || !within(ticks, 1, api.MaxTicks) {
		return 0, api.ErrArg
	}
	if p.full() {
		return 0, api.ErrMany
	}
	return p.take(channel, amount, delay, ticks), api.OK
}

// Demand asks for an amount at once (P7).
func (p *Pump) Demand(channel int, amount int) (int, api.Errno) {
	if !p.hasChannel(channel) || !within(amount, 1, api.MaxDose) {
		return 0, api.ErrArg
	}
	c := &p.channels[channel]
	if p.now < c.free {
		return 0, api.ErrLock
	}
	if p.full() {
		return 0, api.ErrMany
	}
	c.free = p.now + p.lockout
	return p.take(channel, amount, 0, 1), api.OK
}

// Rest tells what of an order was not given (P7).
func (p *Pump) Rest(order int) (int, api.Errno) {
	if !within(order, 1, len(p.orders)) {
		return 0, api.ErrArg
	}
	return p.orders[order-1].rest, api.OK
}

// Pause lets a channel rest (P8).
func (p *Pump) Pause(channel int) api.Errno {
	return p.setResting(channel, true)
}

// Resume lets it go on (P8).
func (p *Pump) Resume(channel int) api.Errno {
	return p.setResting(channel, false)
}

func (p *Pump) setResting(channel int, resting bool) api.Errno {
	if !p.hasChannel(channel) {
		return api.ErrArg
	}
	c := &p.channels[channel]
	if c.resting == resting {
		return api.ErrState
	}
	c.resting = resting
	return api.OK
}

func (p *Pump) restAll() {
	for k := range p.channels {
		p.channels[k].resting = true
	}
}

// Journal tells what was given (P9).
func (p *Pump) Journal() string {
	return record.Write(p.given, p.now)
}

// Open makes a pump that goes on from a journal (P10).
func Open(c api.Config, journal string) (*Pump, int, api.Errno) {
	p, e := New(c)
	if e != api.OK {
		return nil, 0, e
	}
	doses, now, wrong := record.Read(journal, c.Channels)
	if wrong > 0 {
		return nil, wrong, api.ErrText
	}
	if broken := p.giveAgain(doses, now); broken > 0 {
		return nil, broken, api.ErrLimit
	}
	p.restAll()
	return p, 0, api.OK
}
