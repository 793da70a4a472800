package drip

import "drip/api"

// giveTick gives what the tick that comes next has for each channel, and adds the doses to those of the call.
func (p *Pump) giveTick(doses []api.Dose) []api.Dose {
	for k := range p.channels {
		amount := min(p.channels[k].wants(p.now), p.room(k))
		if amount == 0 {
			continue
		}
		p.give(k, amount)
		doses = append(doses, api.Dose{Tick: p.now, Channel: k, Amount: amount})
	}
	return doses
}

func (p *Pump) give(channel, amount int) {
	p.channels[channel].share(p.now, amount)
	for _, w := range p.windows {
		if w.Counts(channel) {
			w.Give(amount)
		}
	}
}

// pass ends a tick. What is due at the next one is done at once, so that a call between two runs finds it done.
func (p *Pump) pass() {
	p.now++
	for _, w := range p.windows {
		w.Pass()
	}
	p.later.Reach(p.now)
}

func (p *Pump) room(channel int) int {
	room := api.MaxDose
	for _, w := range p.windows {
		if w.Counts(channel) {
			room = min(room, w.Left())
		}
	}
	return room
}

// wait is the longest wait of all limits that count: what has room with one of them keeps it while nothing is given.
func (p *Pump) wait(channel, amount int) (int, bool) {
	longest := 0
	for _, w := range p.windows {
		if !w.Counts(channel) {
			continue
		}
		ticks, comes := w.Wait(amount)
		if !comes {
			return 0, false
		}
		longest = max(longest, ticks)
	}
	return longest, true
}
