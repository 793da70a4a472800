package drip

import (
	"slices"

	"drip/agenda"
)

type channelState struct {
	rate    int
	end     *agenda.Entry // of the rate; nil, if it has none
	orders  []*order      // those whose ticks go by, by their numbers
	resting bool
	free    int // the tick from which on a Demand is not locked
}

// begin puts an order in by its number: one that was taken earlier may begin later.
func (c *channelState) begin(o *order) {
	place := 0
	for place < len(c.orders) && c.orders[place].number < o.number {
		place++
	}
	c.orders = slices.Insert(c.orders, place, o)
}

func (c *channelState) drop(o *order) {
	c.orders = slices.DeleteFunc(c.orders, func(other *order) bool { return other == o })
}

// wants tells what the channel is to be given at a tick, if there is room for all of it.
func (c *channelState) wants(tick int) int {
	if c.resting {
		return 0
	}
	amount := c.rate
	for _, o := range c.orders {
		amount += o.part(tick)
	}
	return amount
}

// share hands what is given at a tick to the orders; of what is left for the rate no account is kept.
func (c *channelState) share(tick, amount int) {
	for _, o := range c.orders {
		part := min(o.part(tick), amount)
		o.rest -= part
		amount -= part
	}
}
