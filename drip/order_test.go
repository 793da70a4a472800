package drip_test

import (
	"testing"

	"drip/api"
	"drip/drip"
)

// TestOrderExample is the second one of the document.
func TestOrderExample(t *testing.T) {
	p := newPump(t, 1)
	orders(t, p, 1, 0, 10, 1, 3)
	runs(t, p, 5, [3]int{1, 0, 4}, [3]int{2, 0, 3}, [3]int{3, 0, 3})
	hasRests(t, p, 0)
	p = newPump(t, 1, api.Limit{Channels: 1, Window: 2, Cap: 5})
	orders(t, p, 1, 0, 10, 1, 3)
	runs(t, p, 5, [3]int{1, 0, 4}, [3]int{2, 0, 1}, [3]int{3, 0, 4})
	hasRests(t, p, 1)
}

func TestOrderBounds(t *testing.T) {
	for _, amount := range []int{1, api.MaxDose} {
		for _, delay := range []int{0, 1, api.MaxTicks} {
			for _, ticks := range []int{1, api.MaxTicks} {
				orders(t, newPump(t, 1), 1, 0, amount, delay, ticks)
			}
		}
	}
	p := newPump(t, 2)
	for _, n := range wrong(0, api.MaxDose+1) {
		ordersNot(t, p, 0, n, 0, 1, api.ErrArg)
	}
	for _, n := range wrong(api.MaxTicks + 1) {
		ordersNot(t, p, 0, 1, n, 1, api.ErrArg)
	}
	for _, n := range wrong(0, api.MaxTicks+1) {
		ordersNot(t, p, 0, 1, 0, n, api.ErrArg)
	}
	for _, k := range wrong(2, 3) {
		ordersNot(t, p, k, 1, 0, 1, api.ErrArg)
	}
	hasRests(t, p)
	// What was refused is no order, and takes no number.
	for number := 1; number <= api.MaxOrders; number++ {
		orders(t, p, number, number%2, 1, 0, 1)
	}
}

// TestParts: what is still to be given is divided by the ticks that are left, and rounded up.
func TestParts(t *testing.T) {
	p := newPump(t, 3)
	orders(t, p, 1, 0, 11, 0, 4) // 3 3 3 2
	orders(t, p, 2, 1, 2, 0, 5)  // 1 1, then nothing
	orders(t, p, 3, 2, 9, 2, 3)  // 3 3 3
	runs(t, p, 2, [3]int{0, 0, 3}, [3]int{0, 1, 1}, [3]int{1, 0, 3}, [3]int{1, 1, 1})
	hasRests(t, p, 5, 0, 9)
	runs(t, p, 4, [3]int{2, 0, 3}, [3]int{2, 2, 3}, [3]int{3, 0, 2}, [3]int{3, 2, 3}, [3]int{4, 2, 3})
	hasRests(t, p, 0, 0, 0)
	quiet(t, p, 10)
	// The ticks of an order are counted from now, not from 0.
	orders(t, p, 4, 1, 7, 1, 2)
	runs(t, p, 4, [3]int{17, 1, 4}, [3]int{18, 1, 3})
	orders(t, p, 5, 1, api.MaxDose, 0, 1)
	runs(t, p, 2, [3]int{20, 1, api.MaxDose})
	hasRests(t, p, 0, 0, 0, 0, 0)
}

// TestLongestOrder: ticks beyond MaxTicks are an order's too, though they never come.
func TestLongestOrder(t *testing.T) {
	p := newPump(t, 1)
	orders(t, p, 1, 0, 3, api.MaxTicks-1, api.MaxTicks)
	orders(t, p, 2, 0, 1, api.MaxTicks, 1)
	orders(t, p, 3, 0, api.MaxDose, 0, api.MaxTicks)
	for tick := 0; tick < api.MaxTicks-1; tick++ {
		want := 3 // 200 times 3 and 200 times 2 are MaxDose
		if tick >= api.MaxTicks/2 {
			want = 2
		}
		runs(t, p, 1, [3]int{tick, 0, want})
	}
	hasRests(t, p, 3, 1, 2)
	runs(t, p, 1, [3]int{api.MaxTicks - 1, 0, 3})
	hasRests(t, p, 2, 1, 0)
	runsNot(t, p, 1, api.ErrMany)
	orders(t, p, 4, 0, 5, 0, 1)
	hasRests(t, p, 2, 1, 0, 5)
}

// TestOrdersByNumber: the one that was taken first is served first, though it begins last; the rate has what is left.
func TestOrdersByNumber(t *testing.T) {
	p := newPump(t, 1, api.Limit{Channels: 1, Window: 1, Cap: 10})
	sets(t, p, 0, 1, 0)
	orders(t, p, 1, 0, 12, 2, 2)
	orders(t, p, 2, 0, 20, 1, 4)
	orders(t, p, 3, 0, 12, 0, 4)
	runs(t, p, 1, [3]int{0, 0, 4}) // 3 and the rate
	hasRests(t, p, 12, 20, 9)
	runs(t, p, 1, [3]int{1, 0, 9}) // 5, 3 and the rate
	hasRests(t, p, 12, 15, 6)
	runs(t, p, 1, [3]int{2, 0, 10}) // 6, 4 of 5
	hasRests(t, p, 6, 11, 6)
	runs(t, p, 1, [3]int{3, 0, 10}) // 6, 4 of 6, nothing of 6
	hasRests(t, p, 0, 7, 6)
	runs(t, p, 1, [3]int{4, 0, 8}) // 7 and the rate: the third one is over
	hasRests(t, p, 0, 0, 6)
	runs(t, p, 1, [3]int{5, 0, 1})
	hasRests(t, p, 0, 0, 6)
}

// TestRateComesLast: what the orders do not take of the room is the rate's, not a later order's beyond its part.
func TestRateComesLast(t *testing.T) {
	p := newPump(t, 1, api.Limit{Channels: 1, Window: 1, Cap: 10})
	sets(t, p, 0, 7, 0)
	orders(t, p, 1, 0, 12, 0, 3)
	orders(t, p, 2, 0, 6, 0, 3)
	runs(t, p, 1, [3]int{0, 0, 10}) // 4, 2, 4 of 7
	hasRests(t, p, 8, 4)
	sets(t, p, 0, 3, 0)
	runs(t, p, 1, [3]int{1, 0, 9})
	hasRests(t, p, 4, 2)
}

// TestOrdersOfChannels: an order has nothing of what another channel is given.
func TestOrdersOfChannels(t *testing.T) {
	p := newPump(t, 3, api.Limit{Channels: 7, Window: 1, Cap: 9})
	sets(t, p, 0, 5, 0)
	orders(t, p, 1, 2, 8, 0, 2)
	orders(t, p, 2, 1, 6, 0, 2)
	runs(t, p, 1, [3]int{0, 0, 5}, [3]int{0, 1, 3}, [3]int{0, 2, 1})
	hasRests(t, p, 7, 3)
	runs(t, p, 2, [3]int{1, 0, 5}, [3]int{1, 1, 3}, [3]int{1, 2, 1}, [3]int{2, 0, 5})
	hasRests(t, p, 6, 0)
}

// TestNoMoreThanMaxDose: though no limit is there.
func TestNoMoreThanMaxDose(t *testing.T) {
	p := newPump(t, 1)
	sets(t, p, 0, api.MaxDose, 0)
	for number := 1; number <= api.MaxOrders; number++ {
		orders(t, p, number, 0, 300, 0, 1)
	}
	runs(t, p, 1, [3]int{0, 0, api.MaxDose})
	hasRests(t, p, 0, 0, 0, 200, 300, 300, 300, 300)
	runs(t, p, 1, [3]int{1, 0, api.MaxDose})
}

// TestLeftOverIsNotGiven: of an order that is over nothing more is given, and its rest stays.
func TestLeftOverIsNotGiven(t *testing.T) {
	p := newPump(t, 1, api.Limit{Channels: 1, Window: 3, Cap: 4})
	orders(t, p, 1, 0, 9, 0, 2)
	orders(t, p, 2, 0, 2, 0, 1)
	runs(t, p, 3, [3]int{0, 0, 4})
	hasRests(t, p, 5, 2)
	quiet(t, p, 20)
	hasRests(t, p, 5, 2)
	orders(t, p, 3, 0, 3, 0, 1)
	runs(t, p, 1, [3]int{23, 0, 3})
	hasRests(t, p, 5, 2, 0)
}

func isFull(t *testing.T, p *drip.Pump) {
	t.Helper()
	ordersNot(t, p, 0, 1, 0, 1, api.ErrMany)
	ordersNot(t, p, 1, api.MaxDose, api.MaxTicks, api.MaxTicks, api.ErrMany)
	demandsNot(t, p, 0, 1, api.ErrMany)
	demandsNot(t, p, 1, 1, api.ErrMany)
	// ErrArg is named first.
	ordersNot(t, p, 0, 0, 0, 1, api.ErrArg)
	ordersNot(t, p, 0, 1, -1, 1, api.ErrArg)
	ordersNot(t, p, 0, 1, 0, 0, api.ErrArg)
	ordersNot(t, p, 2, 1, 0, 1, api.ErrArg)
	demandsNot(t, p, 0, 0, api.ErrArg)
	demandsNot(t, p, 2, 1, api.ErrArg)
}

// TestMaxOrders: all channels together; one that has not begun counts, and so does one that has all of its amount.
func TestMaxOrders(t *testing.T) {
	p := newPump(t, 2)
	orders(t, p, 1, 0, 1, 0, 3)
	orders(t, p, 2, 1, 1, 2, 2)
	demands(t, p, 3, 1, 5)
	for number := 4; number <= api.MaxOrders; number++ {
		orders(t, p, number, number%2, 1, 10, 1)
	}
	isFull(t, p)
	runs(t, p, 1, [3]int{0, 0, 1}, [3]int{0, 1, 5})
	hasRests(t, p, 0, 1, 0, 1, 1, 1, 1, 1)
	demands(t, p, 9, 1, 1) // in place of the demand that is over
	isFull(t, p)
	runs(t, p, 1, [3]int{1, 1, 1})
	orders(t, p, 10, 0, 1, 20, 1)
	isFull(t, p)
	runs(t, p, 1, [3]int{2, 1, 1}) // the first one is over
	orders(t, p, 11, 0, 1, 20, 1)
	isFull(t, p)
	runs(t, p, 1)
	orders(t, p, 12, 0, 1, 20, 1) // the second one
	isFull(t, p)
	runs(t, p, 6)
	isFull(t, p)
	runs(t, p, 1, [3]int{10, 0, 3}, [3]int{10, 1, 2})
	for number := 13; number <= 17; number++ {
		orders(t, p, number, 0, 1, 20, 1)
	}
	isFull(t, p)
}

// TestManyOrdersEver: their numbers go on, and the rest of each is still told.
func TestManyOrdersEver(t *testing.T) {
	p := newPump(t, 1, api.Limit{Channels: 1, Window: 1, Cap: 20})
	var want []int
	for tick := range api.MaxTicks {
		for i := 1; i <= api.MaxOrders; i++ {
			orders(t, p, len(want)+1, 0, i, 0, 1)
			want = append(want, []int{1: 0, 6: 1, 7: 7, 8: 8}[i])
		}
		runs(t, p, 1, [3]int{tick, 0, 20})
	}
	hasRests(t, p, want...)
}
