package drip_test

import (
	"testing"

	"drip/api"
)

func TestPauseStates(t *testing.T) {
	p := newPump(t, 3)
	for k := range 3 {
		resumes(t, p, k, api.ErrState)
	}
	for _, k := range wrong(3, 4) {
		pauses(t, p, k, api.ErrArg)
		resumes(t, p, k, api.ErrArg)
	}
	pauses(t, p, 1, api.OK)
	pauses(t, p, 1, api.ErrState)
	resumes(t, p, 0, api.ErrState)
	resumes(t, p, 2, api.ErrState)
	pauses(t, p, 2, api.OK)
	quiet(t, p, 3)
	pauses(t, p, 1, api.ErrState)
	resumes(t, p, 1, api.OK)
	resumes(t, p, 1, api.ErrState)
	pauses(t, p, 2, api.ErrState)
	pauses(t, p, 1, api.OK)
	resumes(t, p, 2, api.OK)
	resumes(t, p, 1, api.OK)
}

// TestRestingWantsNothing: neither by its rate nor by its orders; the other channels go on.
func TestRestingWantsNothing(t *testing.T) {
	p := newPump(t, 2)
	sets(t, p, 0, 2, 0)
	sets(t, p, 1, 3, 0)
	orders(t, p, 1, 0, 8, 0, 4)
	orders(t, p, 2, 1, 4, 0, 4)
	runs(t, p, 1, [3]int{0, 0, 4}, [3]int{0, 1, 4})
	pauses(t, p, 0, api.OK)
	runs(t, p, 1, [3]int{1, 1, 4})
	hasRests(t, p, 6, 2)
	resumes(t, p, 0, api.OK)
	runs(t, p, 1, [3]int{2, 0, 5}, [3]int{2, 1, 4}) // 6 in the two ticks that are left
	hasRests(t, p, 3, 1)
}

// TestTimeGoesOnWhileResting: rates end, orders begin and are over.
func TestTimeGoesOnWhileResting(t *testing.T) {
	p := newPump(t, 1)
	pauses(t, p, 0, api.OK)
	sets(t, p, 0, 7, 3)
	orders(t, p, 1, 0, 5, 0, 2)
	orders(t, p, 2, 0, 6, 1, 3)
	orders(t, p, 3, 0, 9, 3, 3)
	runs(t, p, 2)
	for number := 4; number <= 9; number++ { // one more than before: the first one is over
		orders(t, p, number, 0, 1, 100, 1)
	}
	ordersNot(t, p, 0, 1, 0, 1, api.ErrMany)
	runs(t, p, 1)
	resumes(t, p, 0, api.OK)
	runs(t, p, 4, [3]int{3, 0, 9}, [3]int{4, 0, 3}, [3]int{5, 0, 3}) // 6 and 3; the rate has ended
	hasRests(t, p, 5, 0, 0, 1, 1, 1, 1, 1, 1)
}

// TestBasalWhileResting: the rate is set; it is given from Resume on.
func TestBasalWhileResting(t *testing.T) {
	p := newPump(t, 1)
	pauses(t, p, 0, api.OK)
	sets(t, p, 0, 4, 0)
	quiet(t, p, 5)
	resumes(t, p, 0, api.OK)
	runs(t, p, 2, [3]int{5, 0, 4}, [3]int{6, 0, 4})
	pauses(t, p, 0, api.OK)
	sets(t, p, 0, 6, 0)
	quiet(t, p, 1)
	resumes(t, p, 0, api.OK)
	runs(t, p, 1, [3]int{8, 0, 6})
}

// TestRoomWhileResting: what the limits let be given does not hang on that; what was given goes out of them.
func TestRoomWhileResting(t *testing.T) {
	p := newPump(t, 2, api.Limit{Channels: 3, Window: 4, Cap: 10})
	sets(t, p, 0, 6, 0)
	sets(t, p, 1, 3, 0)
	runs(t, p, 1, [3]int{0, 0, 6}, [3]int{0, 1, 3})
	pauses(t, p, 0, api.OK)
	hasRoom(t, p, 0, 1)
	waits(t, p, 0, 10, 3)
	// What the one that rests does not take is the other one's.
	runs(t, p, 3, [3]int{1, 1, 1})
	hasRoom(t, p, 0, 9)
	resumes(t, p, 0, api.OK)
	hasRoom(t, p, 0, 9)
	runs(t, p, 1, [3]int{4, 0, 6}, [3]int{4, 1, 3})
}
