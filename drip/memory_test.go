package drip_test

import (
	"slices"
	"testing"

	"drip/api"
	"drip/drip"
)

// TestLimitsAreTheCallers: P2: New changes neither the list nor its spare room, and keeps neither.
func TestLimitsAreTheCallers(t *testing.T) {
	whole := []api.Limit{{Channels: 1, Window: 2, Cap: 5}, {Channels: 2, Window: 3, Cap: 7}, {Channels: 99, Window: -9, Cap: 77}, {}}
	before := slices.Clone(whole)
	p, e := drip.New(api.Config{Channels: 2, Limits: whole[:2]})
	if p == nil || e != api.OK {
		t.Fatalf("P3: New: %v, %d", p, e)
	}
	sets(t, p, 0, 4, 0)
	runs(t, p, 1, [3]int{0, 0, 4})
	if !slices.Equal(whole, before) {
		t.Errorf("P2: the caller's limits were %v, are %v", before, whole)
	}
	for i := range whole {
		whole[i] = api.Limit{Channels: 3, Window: 100, Cap: 0}
	}
	hasRoom(t, p, 0, 1)
	hasRoom(t, p, 1, 7)
	waits(t, p, 0, 5, 1)
	runs(t, p, 2, [3]int{1, 0, 1}, [3]int{2, 0, 4})
}

// TestOpenLimitsAreTheCallers: P2 holds of Open as of New.
func TestOpenLimitsAreTheCallers(t *testing.T) {
	whole := []api.Limit{{Channels: 1, Window: 2, Cap: 5}, {Channels: 99, Window: -9, Cap: 77}}
	before := slices.Clone(whole)
	p := opens(t, api.Config{Channels: 1, Limits: whole[:1]}, "0 0 4\n= 1\n")
	opensNot(t, api.Config{Channels: 1, Limits: whole[:1]}, "0 0 6\n= 1\n", 1, api.ErrLimit)
	if !slices.Equal(whole, before) {
		t.Errorf("P2: the caller's limits were %v, are %v", before, whole)
	}
	for i := range whole {
		whole[i] = api.Limit{Channels: 1, Window: 100, Cap: 0}
	}
	hasRoom(t, p, 0, 1)
	resumes(t, p, 0, api.OK)
	sets(t, p, 0, 3, 0)
	runs(t, p, 2, [3]int{1, 0, 1}, [3]int{2, 0, 3})
}

// TestQuietAnswer: P2: an answer without doses is no way into what was given before.
func TestQuietAnswer(t *testing.T) {
	p := newPump(t, 1)
	sets(t, p, 0, 2, 3)
	runs(t, p, 3, [3]int{0, 0, 2}, [3]int{1, 0, 2}, [3]int{2, 0, 2})
	doses, _ := p.Run(2)
	spoil(doses)
	spoil(append(doses, api.Dose{}))
	sets(t, p, 0, 2, 1)
	runs(t, p, 1, [3]int{5, 0, 2})
	spoil(append(doses, api.Dose{}))
	tells(t, p, "0 0 2\n1 0 2\n2 0 2\n5 0 2\n= 6\n")
}

// TestRefusedLimitsStay: P2 holds where New refuses too.
func TestRefusedLimitsStay(t *testing.T) {
	whole := []api.Limit{{Channels: 1, Window: 2, Cap: 5}, {Channels: 1, Window: 0, Cap: 5}, {Channels: 7, Window: 7, Cap: 7}}
	before := slices.Clone(whole)
	if p, e := drip.New(api.Config{Channels: 1, Limits: whole[:2]}); p != nil || e != api.ErrArg {
		t.Errorf("P3: New: %v, %d", p, e)
	}
	if !slices.Equal(whole, before) {
		t.Errorf("P2: the caller's limits were %v, are %v", before, whole)
	}
}

// TestDosesAreTheCallers: P2: what a caller writes into an answer and its spare room is seen nowhere else.
func TestDosesAreTheCallers(t *testing.T) {
	p := newPump(t, 1, api.Limit{Channels: 1, Window: 3, Cap: 5})
	sets(t, p, 0, 2, 0)
	first, _ := p.Run(3)
	kept := slices.Clone(first)
	second, _ := p.Run(3)
	if !slices.Equal(first, kept) {
		t.Errorf("P2: a first answer %v has become %v", kept, first)
	}
	kept = slices.Clone(second)
	spoil(first)
	if !slices.Equal(second, kept) {
		t.Errorf("P2: a second answer %v has become %v", kept, second)
	}
	spoil(second)
	tells(t, p, "0 0 2\n1 0 2\n2 0 1\n3 0 2\n4 0 2\n5 0 1\n= 6\n")
	hasRoom(t, p, 0, 2)
	runs(t, p, 3, [3]int{6, 0, 2}, [3]int{7, 0, 2}, [3]int{8, 0, 1})
}

func spoil(doses []api.Dose) {
	doses = doses[:cap(doses)]
	for i := range doses {
		doses[i] = api.Dose{Tick: -7, Channel: -7, Amount: -7}
	}
}

// TestPumpsStandAlone: P2: what one pump answers does not hang on the calls on another one.
func TestPumpsStandAlone(t *testing.T) {
	limit := api.Limit{Channels: 3, Window: 4, Cap: 9}
	one, other := newPump(t, 2, limit), newPump(t, 2, limit)
	sets(t, one, 0, 5, 2)
	sets(t, other, 0, 1, 1)
	sets(t, other, 1, 8, 0)
	runs(t, other, 2, [3]int{0, 0, 1}, [3]int{0, 1, 8})
	hasRoom(t, one, 0, 9)
	runs(t, one, 3, [3]int{0, 0, 5}, [3]int{1, 0, 4})
	waits(t, one, 1, 5, 1)
	waits(t, other, 1, 5, 2)
	c := api.Config{Channels: 2, Limits: []api.Limit{limit}}
	third, fourth := opens(t, c, one.Journal()), opens(t, c, one.Journal())
	resumes(t, third, 1, api.OK)
	sets(t, third, 1, 7, 0)
	runs(t, third, 3, [3]int{4, 1, 5}, [3]int{5, 1, 4})
	pauses(t, fourth, 1, api.ErrState)
	hasRoom(t, fourth, 1, 0)
	tells(t, one, "0 0 5\n1 0 4\n= 3\n")
	tells(t, fourth, "0 0 5\n1 0 4\n= 3\n")
	tells(t, third, "0 0 5\n1 0 4\n4 1 5\n5 1 4\n= 6\n")
}
