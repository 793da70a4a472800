package drip_test

import (
	"math/rand"
	"strings"
	"testing"

	"drip/api"
	"drip/drip"
)

// TestOpenedPump: all channels rest, all rates are 0, there are no orders, no Demand was answered, whatever the other pump was about.
func TestOpenedPump(t *testing.T) {
	c := api.Config{Channels: 3, Lockout: 50}
	p := pumpOf(t, c)
	sets(t, p, 0, 2, 0)
	demands(t, p, 1, 1, 9)
	for number := 2; number <= api.MaxOrders; number++ {
		orders(t, p, number, 0, 5, 3, 10)
	}
	pauses(t, p, 2, api.OK)
	runs(t, p, 2, [3]int{0, 0, 2}, [3]int{0, 1, 9}, [3]int{1, 0, 2})
	q := opens(t, c, p.Journal())
	hasRests(t, q)
	for k := range 3 {
		pauses(t, q, k, api.ErrState)
		resumes(t, q, k, api.OK)
		resumes(t, q, k, api.ErrState)
	}
	runs(t, q, 10)
	demands(t, q, 1, 1, 4)
	demandsNot(t, q, 1, 4, api.ErrLock)
	for number := 2; number <= api.MaxOrders; number++ {
		orders(t, q, number, 2, 1, 0, 1)
	}
	ordersNot(t, q, 0, 1, 0, 1, api.ErrMany)
	runs(t, q, 1, [3]int{12, 1, 4}, [3]int{12, 2, 7})
	tells(t, q, "0 0 2\n0 1 9\n1 0 2\n12 1 4\n12 2 7\n= 13\n")
	// The pump that the journal was of goes on by itself.
	runs(t, p, 1, [3]int{2, 0, 2})
	tells(t, p, "0 0 2\n0 1 9\n1 0 2\n2 0 2\n= 3\n")
}

// TestOpenedRests: nothing is given till Resume, though time goes on for what was set and ordered.
func TestOpenedRests(t *testing.T) {
	p := opens(t, api.Config{Channels: 2}, "3 1 8\n= 20\n")
	sets(t, p, 0, 5, 0)
	sets(t, p, 1, 6, 3)
	orders(t, p, 1, 1, 8, 0, 4)
	runs(t, p, 2)
	resumes(t, p, 1, api.OK)
	runs(t, p, 2, [3]int{22, 1, 10}, [3]int{23, 1, 4})
	hasRests(t, p, 0)
	resumes(t, p, 0, api.OK)
	runs(t, p, 1, [3]int{24, 0, 5})
}

// TestOpenedNow: from 0 on to MaxTicks, with doses up to the tick ahead of it.
func TestOpenedNow(t *testing.T) {
	c := api.Config{Channels: 4}
	p := opens(t, c, "= 0\n")
	resumes(t, p, 2, api.OK)
	sets(t, p, 2, 7, 1)
	runs(t, p, 2, [3]int{0, 2, 7})
	p = opens(t, c, "0 0 1\n= 1\n")
	resumes(t, p, 0, api.OK)
	sets(t, p, 0, 3, 0)
	runs(t, p, 1, [3]int{1, 0, 3})
	p = opens(t, c, "= 399\n")
	runsNot(t, p, 2, api.ErrMany)
	runs(t, p, 1)
	runsNot(t, p, 1, api.ErrMany)
	p = opens(t, c, "399 0 1\n399 3 1000\n= 400\n")
	runsNot(t, p, 1, api.ErrMany)
	runsNot(t, p, 101, api.ErrArg)
}

// TestOpenedWindows: what was given ahead of Open counts for Room and Wait, and goes out of the windows at its time.
func TestOpenedWindows(t *testing.T) {
	c := api.Config{Channels: 2, Limits: []api.Limit{{Channels: 3, Window: 5, Cap: 10}, {Channels: 2, Window: 2, Cap: 4}}}
	p := opens(t, c, "0 0 3\n0 1 3\n1 0 3\n1 1 1\n= 2\n")
	hasRoom(t, p, 0, 0)
	hasRoom(t, p, 1, 0)
	waits(t, p, 0, 0, 0)
	waits(t, p, 0, 6, 3)
	waits(t, p, 0, 7, 4)
	waits(t, p, 1, 4, 3)
	waitsForEver(t, p, 1, 5)
	runs(t, p, 3)
	hasRoom(t, p, 0, 6)
	hasRoom(t, p, 1, 4)
	runs(t, p, 1)
	hasRoom(t, p, 0, 10)
	// All of it is too old when the pump is opened.
	p = opens(t, c, "0 0 3\n0 1 3\n1 0 3\n1 1 1\n= 300\n")
	hasRoom(t, p, 0, 10)
	hasRoom(t, p, 1, 4)
}

// TestOpenText: the number of the first line at which a text is no journal any more.
func TestOpenText(t *testing.T) {
	c := api.Config{Channels: 2}
	for _, w := range []struct {
		text string
		line int
	}{
		{"", 1}, {"\n", 1}, {"x", 1}, {"= 5", 1}, {"= ", 1}, {"=", 1}, {"=\n", 1}, {"= \n", 1}, {"=5\n", 1}, {"=  5\n", 1}, {" = 5\n", 1}, {"= 5 \n", 1}, {"= 5\r\n", 1},
		{"= 05\n", 1}, {"= 00\n", 1}, {"= -0\n", 1}, {"= -5\n", 1}, {"= +5\n", 1}, {"= 401\n", 1}, {"= 1000\n", 1}, {"= 5 5\n", 1}, {"== 5\n", 1}, {"= =\n", 1}, {"= 1e2\n", 1}, {"= 0x5\n", 1}, {"= 1_0\n", 1}, {"= ٣\n", 1},
		{"= 18446744073709551616\n", 1}, {"= 18446744073709551621\n", 1}, {"= 4294967296\n", 1}, {"= " + strings.Repeat("9", 1000) + "\n", 1},
		{"= 5\n\n", 2}, {"= 5\n= 5\n", 2}, {"= 5\n= 6\n", 2}, {"= 5\n6 0 1\n", 2}, {"= 5\n6 0 1\n= 7\n", 2}, {"= 5\nx", 2}, {"= 5\n ", 2}, {"= 5\n\x00", 2},
		{"0 0 1", 1}, {"0 0 1\n", 2}, {"0 0 1\n0 1 1\n", 3}, {"0 0 1\n= 1", 2}, {"0 0 1\n0 1", 2}, {"0 0 1\n0 1 1", 2},
		{"0 0\n= 1\n", 1}, {"0\n= 1\n", 1}, {"0 0 \n= 1\n", 1}, {"0  1\n= 1\n", 1}, {" 0 1\n= 1\n", 1}, {"0 0 1 1\n= 1\n", 1}, {"0 0 1 \n= 1\n", 1}, {" 0 0 1\n= 1\n", 1}, {"0  0 1\n= 1\n", 1}, {"0 0  1\n= 1\n", 1}, {"0\t0\t1\n= 1\n", 1}, {"0 0 1\r\n= 1\n", 1}, {"0 0 1 = 1\n", 1},
		{"00 0 1\n= 1\n", 1}, {"0 00 1\n= 1\n", 1}, {"0 0 01\n= 1\n", 1}, {"+0 0 1\n= 1\n", 1}, {"0 +0 1\n= 1\n", 1}, {"0 0 +1\n= 1\n", 1}, {"-0 0 1\n= 1\n", 1}, {"-1 0 1\n= 1\n", 1}, {"0 -1 1\n= 1\n", 1}, {"0 0 -1\n= 1\n", 1},
		{"400 0 1\n= 400\n", 1}, {"400 0 1\n= 401\n", 1}, {"1000 0 1\n= 400\n", 1}, {"0 2 1\n= 1\n", 1}, {"0 4 1\n= 1\n", 1}, {"0 10 1\n= 1\n", 1}, {"0 0 0\n= 1\n", 1}, {"0 0 1001\n= 1\n", 1}, {"0 0 18446744073709551617\n= 1\n", 1}, {"18446744073709551616 0 1\n= 1\n", 1}, {"0 18446744073709551616 1\n= 1\n", 1},
		{"0 0 1\n0 0 1\n= 1\n", 2}, {"0 1 1\n0 0 1\n= 1\n", 2}, {"1 0 1\n0 1 1\n= 2\n", 2}, {"5 0 1\n6 0 1\n4 1 1\n= 9\n", 3}, {"0 0 1\n\n= 1\n", 2}, {"0 0 1\n0 2 1\n= 1\n", 2}, {"0 0 1\n0 1 0\n= 1\n", 2}, {"0 0 1\n= 1\n0 1 1\n", 3},
		{"0 0 1\n= 0\n", 2}, {"7 1 1\n= 7\n", 2}, {"7 1 1\n= 6\n", 2}, {"399 0 1\n= 399\n", 2}, {"399 0 1\n= 401\n", 2}, {"399 0 1\n400 0 1\n= 400\n", 2},
		{"\xff\xfe\n", 1}, {"0 0 1\n\xff\n", 2}, {"\ufeff= 0\n", 1}, {"= 0\x00\n", 1},
	} {
		opensNot(t, c, w.text, w.line, api.ErrText)
	}
}

// TestOpenCut: a journal that ends too early is named by the line that is cut off or missing.
func TestOpenCut(t *testing.T) {
	c := api.Config{Channels: 4}
	text := "0 0 1\n0 3 1000\n17 2 100\n399 1 10\n= 400\n"
	opens(t, c, text)
	for n := range len(text) {
		opensNot(t, c, text[:n], 1+strings.Count(text[:n], "\n"), api.ErrText)
	}
}

// TestOpenChannels: channels are of those that are there.
func TestOpenChannels(t *testing.T) {
	text := "4 0 1\n4 1 1\n4 2 1\n4 3 1\n= 5\n"
	for channels := 1; channels < api.MaxChannels; channels++ {
		opensNot(t, api.Config{Channels: channels}, text, channels+1, api.ErrText)
	}
	opens(t, api.Config{Channels: api.MaxChannels}, text)
}

// TestOpenLimit: the number of the first line with which a limit is broken.
func TestOpenLimit(t *testing.T) {
	c := api.Config{Channels: 2, Limits: []api.Limit{{Channels: 3, Window: 4, Cap: 10}, {Channels: 2, Window: 100, Cap: 12}}}
	for _, w := range []struct {
		text string
		line int
	}{
		{"0 0 11\n= 1\n", 1},
		{"0 0 10\n0 1 1\n= 1\n", 2},
		{"0 0 10\n3 0 1\n= 400\n", 2}, // the last tick of the window
		{"0 0 4\n1 0 3\n2 0 3\n4 0 5\n5 0 9\n= 6\n", 4},
		{"0 1 6\n50 1 6\n99 1 1\n= 400\n", 3},
		{"0 1 6\n50 1 6\n60 0 10\n100 1 7\n= 400\n", 4},
		{"0 0 10\n4 0 10\n8 0 10\n12 0 10\n15 1 1\n20 0 999\n= 21\n", 5},
		{"395 0 10\n399 0 10\n399 1 1\n= 400\n", 3},
	} {
		opensNot(t, c, w.text, w.line, api.ErrLimit)
	}
	opens(t, c, "0 0 10\n4 0 10\n8 0 4\n8 1 6\n12 0 4\n12 1 6\n108 0 4\n108 1 6\n= 109\n")
	opens(t, c, "0 1 6\n50 1 6\n60 0 10\n100 1 6\n= 101\n")
	none := api.Config{Channels: 2, Limits: []api.Limit{{Channels: 2, Window: 1, Cap: 0}}}
	opensNot(t, none, "0 0 1000\n1 1 1\n= 2\n", 2, api.ErrLimit)
	opens(t, none, "0 0 1000\n= 2\n")
}

// TestOpenTextAheadOfLimit: ErrText is named first, wherever its line is.
func TestOpenTextAheadOfLimit(t *testing.T) {
	c := api.Config{Channels: 2, Limits: []api.Limit{{Channels: 3, Window: 4, Cap: 10}}}
	broken := "0 0 11\n1 0 10\n2 0 10\n"
	opensNot(t, c, broken+"= 3\n", 1, api.ErrLimit)
	opensNot(t, c, broken, 4, api.ErrText)
	opensNot(t, c, broken+"= 3", 4, api.ErrText)
	opensNot(t, c, broken+"= 2\n", 4, api.ErrText)
	opensNot(t, c, broken+"= 3\n\n", 5, api.ErrText)
	opensNot(t, c, broken+"3 2 1\n= 4\n", 4, api.ErrText)
	opensNot(t, c, "0 2 1\n"+broken+"= 3\n", 1, api.ErrText)
}

// TestOpenLongTexts: P1: Open ends soon at texts of many bytes too.
func TestOpenLongTexts(t *testing.T) {
	c := api.Config{Channels: 1}
	const many = 1 << 22
	for _, b := range []string{"0", "9", " ", "=", "x", "\xff", "0 ", "9 0 "} {
		opensNot(t, c, strings.Repeat(b, many/len(b)), 1, api.ErrText)
		opensNot(t, c, "= "+strings.Repeat(b, many/len(b))+"\n", 1, api.ErrText)
	}
	opensNot(t, c, strings.Repeat("\n", many), 1, api.ErrText)
	opensNot(t, c, strings.Repeat("0 0 1\n", many/6), 2, api.ErrText)
	opensNot(t, c, "= 0\n"+strings.Repeat("= 0\n", many/4), 2, api.ErrText)
}

// TestOpenAnyBytes: P1: none panics, and with an error there is no pump.
func TestOpenAnyBytes(t *testing.T) {
	r := rand.New(rand.NewSource(4))
	c := api.Config{Channels: 3, Limits: []api.Limit{{Channels: 5, Window: 9, Cap: 50}}}
	for range 20000 {
		text := make([]byte, r.Intn(40))
		for i := range text {
			text[i] = byte(r.Intn(256))
			if r.Intn(3) > 0 {
				text[i] = " \n=0123456789"[r.Intn(13)]
			}
		}
		p, line, e := drip.Open(c, string(text))
		if e == api.OK && (p == nil || line != 0 || p.Journal() != string(text)) || e != api.OK && (p != nil || line < 1 || e != api.ErrText && e != api.ErrLimit) {
			t.Fatalf("P10: Open(%v, %q) = %v, %d, %d", c, text, p, line, e)
		}
	}
}
