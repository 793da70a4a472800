package drip_test

import (
	"testing"

	"drip/api"
	"drip/drip"
)

// takes: Open takes the configs that New takes.
func takes(t *testing.T, c api.Config) {
	t.Helper()
	if p, e := drip.New(c); p == nil || e != api.OK {
		t.Errorf("P3: New(%v): %v, %d", c, p, e)
	}
	opens(t, c, "= 0\n")
}

// refuses: Open refuses what New refuses, whatever the text is.
func refuses(t *testing.T, c api.Config) {
	t.Helper()
	if p, e := drip.New(c); p != nil || e != api.ErrArg {
		t.Errorf("P3: New(%v): %v, %d, want ErrArg", c, p, e)
	}
	for _, text := range []string{"= 0\n", "0 0 1\n= 1\n", "0 0 1000\n1 0 1000\n= 2\n", "", "x", "= 0\nx"} {
		opensNot(t, c, text, 0, api.ErrArg)
	}
}

func oneLimit(channels, set, window, most int) api.Config {
	return api.Config{Channels: channels, Limits: []api.Limit{{Channels: set, Window: window, Cap: most}}}
}

func TestNewChannels(t *testing.T) {
	for n := 1; n <= api.MaxChannels; n++ {
		takes(t, api.Config{Channels: n})
	}
	for _, n := range wrong(0, api.MaxChannels+1) {
		refuses(t, api.Config{Channels: n})
	}
}

func TestNewLockout(t *testing.T) {
	for _, n := range []int{0, 1, api.MaxTicks} {
		takes(t, api.Config{Channels: 1, Lockout: n})
	}
	for _, n := range wrong(api.MaxTicks + 1) {
		refuses(t, api.Config{Channels: 1, Lockout: n})
	}
}

func TestNewHowManyLimits(t *testing.T) {
	var limits []api.Limit
	for n := range 100 {
		c := api.Config{Channels: 1, Limits: limits}
		if n <= api.MaxLimits {
			takes(t, c)
		} else {
			refuses(t, c)
		}
		limits = append(limits, api.Limit{Channels: 1, Window: 1, Cap: 1})
	}
}

func TestNewSets(t *testing.T) {
	for channels, sets := range []int{1: 1, 2: 3, 3: 7, 4: 15} {
		for set := 1; set <= sets; set++ {
			takes(t, oneLimit(channels, set, 1, 1))
		}
		for _, set := range wrong(0, sets+1, 16, 17, 32) {
			refuses(t, oneLimit(channels, set, 1, 1))
		}
	}
}

func TestNewWindowsAndCaps(t *testing.T) {
	for _, n := range []int{1, 2, api.MaxWindow} {
		takes(t, oneLimit(1, 1, n, 1))
	}
	for _, n := range wrong(0, api.MaxWindow+1) {
		refuses(t, oneLimit(1, 1, n, 1))
	}
	for _, n := range []int{0, 1, api.MaxCap} {
		takes(t, oneLimit(1, 1, 1, n))
	}
	for _, n := range wrong(api.MaxCap + 1) {
		refuses(t, oneLimit(1, 1, 1, n))
	}
}

// TestNewEachLimit: the one that may not be stands at each place once.
func TestNewEachLimit(t *testing.T) {
	for place := range api.MaxLimits {
		for _, bad := range []api.Limit{{Channels: 4, Window: 1, Cap: 1}, {Channels: 1, Window: 0, Cap: 1}, {Channels: 1, Window: 1, Cap: -1}} {
			limits := make([]api.Limit, api.MaxLimits)
			for i := range limits {
				limits[i] = api.Limit{Channels: 3, Window: 5, Cap: 5}
			}
			limits[place] = bad
			refuses(t, api.Config{Channels: 2, Limits: limits})
		}
	}
}

// TestNewPump: now is 0, nothing was given, all rates are 0, no channel rests.
func TestNewPump(t *testing.T) {
	limit := api.Limit{Channels: 15, Window: 100, Cap: 900}
	p := newPump(t, 4, limit)
	for k := range 4 {
		hasRoom(t, p, k, 900)
		waits(t, p, k, 900, 0)
	}
	quiet(t, p, api.MaxTicks)
	runsNot(t, p, 1, api.ErrMany)
	p = newPump(t, 4, limit)
	for k := range 4 {
		sets(t, p, k, 1+k, 0)
	}
	runs(t, p, 1, [3]int{0, 0, 1}, [3]int{0, 1, 2}, [3]int{0, 2, 3}, [3]int{0, 3, 4})
}
