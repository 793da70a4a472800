package drip

import "drip/api"

// giveTick gives what the tick that comes next has for each channel.
func (p *Pump) giveTick() {
	for k := range p.channels {
		if amount := min(p.channels[k].wants(p.now), p.room(k)); amount > 0 {
			p.give(k, amount)
		}
	}
}

func (p *Pump) give(channel, amount int) {
	p.given = append(p.given, api.Dose{Tick: p.now, Channel: channel, Amount: amount})
	p.channels[channel].share(p.now, amount)
	for _, w := range p.windows {
		if w.Counts(channel) {
			w.Give(amount)
		}
	}
}

// giveAgain gives what a journal tells, and goes on to its now; the answer is the number (from 1) of the first dose that breaks a limit, 0 if none does.
func (p *Pump) giveAgain(doses []api.Dose, now int) int {
	for i, d := range doses {
		p.passTo(d.Tick)
		if d.Amount > p.room(d.Channel) {
			return i + 1
		}
		p.give(d.Channel, d.Amount)
	}
	p.passTo(now)
	return 0
}

func (p *Pump) passTo(tick int) {
	for p.now < tick {
		p.pass()
	}
}

// pass ends a tick. What is due at the next one is done at once, so that a call between two runs finds it done.
func (p *Pump) pass() {
	p.now++
	for _, w := range p.windows {
		w.Pass()
	}
	p.later.Reach(p.now)
}

func (p *Pump) room(channel int) int {
	room := api.MaxDose
	for _, w := range p.windows {
		if w.Counts(channel) {
			room = min(room, w.Left())
		}
	}
	return room
}

// wait is the longest wait of all limits that count: what has room with one of them keeps it while nothing is given.
func (p *Pump) wait(channel, amount int) (int, bool) {
	longest := 0
	for _, w := range p.windows {
		if !w.Counts(channel) {
			continue
		}
		ticks, comes := w.Wait(amount)
		if !comes {
			return 0, false
		}
		longest = max(longest, ticks)
	}
	return longest, true
}
