package drip_test

import (
	"testing"

	"drip/api"
)

func TestDemandBounds(t *testing.T) {
	p := lockedPump(t, 2, 5)
	for _, n := range wrong(0, api.MaxDose+1) {
		demandsNot(t, p, 0, n, api.ErrArg)
	}
	for _, k := range wrong(2, 3) {
		demandsNot(t, p, k, 1, api.ErrArg)
		demandsNot(t, p, k, 0, api.ErrArg)
	}
	hasRests(t, p)
	// What was refused has locked nothing.
	demands(t, p, 1, 0, 1)
	demands(t, p, 2, 1, api.MaxDose)
	runs(t, p, 2, [3]int{0, 0, 1}, [3]int{0, 1, api.MaxDose})
	// Where the channel is locked, ErrArg is still named first.
	demandsNot(t, p, 0, 1, api.ErrLock)
	for _, n := range wrong(0, api.MaxDose+1) {
		demandsNot(t, p, 0, n, api.ErrArg)
	}
}

// TestDemandIsAnOrder: of one tick, at once; what has no room then is not given later.
func TestDemandIsAnOrder(t *testing.T) {
	p := newPump(t, 1, api.Limit{Channels: 1, Window: 4, Cap: 10})
	sets(t, p, 0, 1, 0)
	orders(t, p, 1, 0, 8, 0, 4)
	demands(t, p, 2, 0, 3)
	runs(t, p, 1, [3]int{0, 0, 6})
	hasRests(t, p, 6, 0)
	demands(t, p, 3, 0, 9)
	runs(t, p, 1, [3]int{1, 0, 4})
	hasRests(t, p, 4, 0, 7)
	runs(t, p, 2)
	hasRests(t, p, 4, 0, 7)
	runs(t, p, 1, [3]int{4, 0, 1})
	hasRests(t, p, 4, 0, 7)
}

// TestLockout: a channel is locked for so many ticks, this one among them; the other one is not.
func TestLockout(t *testing.T) {
	p := lockedPump(t, 2, 3)
	runs(t, p, 2)
	demands(t, p, 1, 0, 1)
	demandsNot(t, p, 0, 1, api.ErrLock)
	runs(t, p, 1, [3]int{2, 0, 1})
	demandsNot(t, p, 0, 1, api.ErrLock)
	demands(t, p, 2, 1, 4)
	runs(t, p, 1, [3]int{3, 1, 4})
	demandsNot(t, p, 0, 1, api.ErrLock)
	demandsNot(t, p, 1, 1, api.ErrLock)
	runs(t, p, 1)
	demands(t, p, 3, 0, 2) // the refused ones have not put it off
	demandsNot(t, p, 1, 1, api.ErrLock)
	runs(t, p, 1, [3]int{5, 0, 2})
	demands(t, p, 4, 1, 5)
	demandsNot(t, p, 0, 1, api.ErrLock)
	runs(t, p, 2, [3]int{6, 1, 5})
	demands(t, p, 5, 0, 1)
	hasRests(t, p, 0, 0, 0, 0, 1)
}

func TestLockoutBounds(t *testing.T) {
	p := lockedPump(t, 1, 0)
	for number := 1; number <= api.MaxOrders; number++ {
		demands(t, p, number, 0, number)
	}
	runs(t, p, 1, [3]int{0, 0, 36})
	p = lockedPump(t, 1, 1)
	demands(t, p, 1, 0, 1)
	demandsNot(t, p, 0, 1, api.ErrLock)
	runs(t, p, 1, [3]int{0, 0, 1})
	demands(t, p, 2, 0, 1)
	p = lockedPump(t, 1, api.MaxTicks)
	demands(t, p, 1, 0, 1)
	runs(t, p, 1, [3]int{0, 0, 1})
	quiet(t, p, api.MaxTicks-2)
	demandsNot(t, p, 0, 1, api.ErrLock)
	quiet(t, p, 1)
	demands(t, p, 2, 0, 1)
}

// TestOrdersAreNotLocked: neither by a Demand, nor do they lock one.
func TestOrdersAreNotLocked(t *testing.T) {
	p := lockedPump(t, 1, 10)
	orders(t, p, 1, 0, 1, 0, 1)
	demands(t, p, 2, 0, 2)
	orders(t, p, 3, 0, 4, 0, 1)
	demandsNot(t, p, 0, 8, api.ErrLock)
	runs(t, p, 1, [3]int{0, 0, 7})
}

// TestLockedAndMany: ErrLock is named ahead of ErrMany; a Demand that is one too many locks nothing.
func TestLockedAndMany(t *testing.T) {
	p := lockedPump(t, 2, 5)
	demands(t, p, 1, 0, 1)
	for number := 2; number <= api.MaxOrders; number++ {
		orders(t, p, number, 0, 1, 2, 1)
	}
	demandsNot(t, p, 0, 1, api.ErrLock)
	demandsNot(t, p, 1, 1, api.ErrMany)
	runs(t, p, 1, [3]int{0, 0, 1})
	demands(t, p, 9, 1, 6)
	runs(t, p, 1, [3]int{1, 1, 6})
	demandsNot(t, p, 1, 6, api.ErrLock)
}

// TestDemandWhileResting: it is answered, and locks, though nothing comes of it.
func TestDemandWhileResting(t *testing.T) {
	p := lockedPump(t, 1, 2)
	pauses(t, p, 0, api.OK)
	demands(t, p, 1, 0, 5)
	demandsNot(t, p, 0, 5, api.ErrLock)
	runs(t, p, 1)
	resumes(t, p, 0, api.OK)
	demandsNot(t, p, 0, 5, api.ErrLock)
	runs(t, p, 1)
	demands(t, p, 2, 0, 6)
	runs(t, p, 1, [3]int{2, 0, 6})
	hasRests(t, p, 5, 0)
}
