package drip

import "drip/api"

type order struct {
	number int
	rest   int
	end    int // the tick at which it is over
}

// part may be asked at the order's own ticks only: at its end no tick is left to divide by.
func (o *order) part(tick int) int {
	left := o.end - tick
	return (o.rest + left - 1) / left
}

// full tells whether one more order would be too many. An order that has all of its amount still counts till it is over.
func (p *Pump) full() bool {
	return p.notOver >= api.MaxOrders
}

// take makes an order and answers its number.
func (p *Pump) take(channel, amount, delay, ticks int) int {
	first := p.now + delay
	o := &order{number: len(p.orders) + 1, rest: amount, end: first + ticks}
	p.orders = append(p.orders, o)
	p.notOver++
	c := &p.channels[channel]
	p.later.Add(first, func() { c.begin(o) })
	p.later.Add(o.end, func() {
		c.drop(o)
		p.notOver--
	})
	p.later.Reach(p.now) // without a delay it begins at once
	return o.number
}
