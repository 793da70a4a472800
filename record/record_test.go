package record_test

import (
	"math/rand"
	"regexp"
	"slices"
	"strconv"
	"strings"
	"testing"

	"drip/api"
	"drip/record"
)

func TestWrite(t *testing.T) {
	for _, w := range []struct {
		doses []api.Dose
		now   int
		want  string
	}{
		{nil, 0, "= 0\n"},
		{[]api.Dose{}, 400, "= 400\n"},
		{[]api.Dose{{Tick: 0, Channel: 0, Amount: 1}}, 10, "0 0 1\n= 10\n"},
		{[]api.Dose{{Tick: 20, Channel: 0, Amount: 1000}, {Tick: 20, Channel: 3, Amount: 105}, {Tick: 399, Channel: 1, Amount: 7}}, 400, "20 0 1000\n20 3 105\n399 1 7\n= 400\n"},
	} {
		if got := record.Write(w.doses, w.now); got != w.want {
			t.Errorf("Write(%v, %d) = %q, want %q", w.doses, w.now, got, w.want)
		}
	}
}

// same: the answer of Read is that of plainRead.
func same(t *testing.T, text string, channels int) {
	t.Helper()
	doses, now, wrong := record.Read(text, channels)
	wantDoses, wantNow, wantWrong := plainRead(text, channels)
	if !slices.Equal(doses, wantDoses) || now != wantNow || wrong != wantWrong {
		t.Fatalf("Read(%.80q, %d) = %v, %d, %d, want %v, %d, %d", text, channels, doses, now, wrong, wantDoses, wantNow, wantWrong)
	}
}

var (
	dosePattern = regexp.MustCompile(`^(0|[1-9][0-9]{0,2}) ([0-3]) ([1-9][0-9]{0,3})\n$`)
	lastPattern = regexp.MustCompile(`^= (0|[1-9][0-9]{0,2})\n$`)
)

func numbers(found []string) []int {
	var l []int
	for _, f := range found[1:] {
		n, _ := strconv.Atoi(f)
		l = append(l, n)
	}
	return l
}

// plainRead looks for the longest head of the text's lines that a journal may have.
func plainRead(text string, channels int) ([]api.Dose, int, int) {
	lines := strings.SplitAfter(text, "\n") // what stands behind the last byte 10, even if it is nothing, is one too
	var doses []api.Dose
	place := -1 // rises with the tick and the channel
	for i, line := range lines {
		if found := lastPattern.FindStringSubmatch(line); found != nil {
			now := numbers(found)[0]
			if now > api.MaxTicks || now*api.MaxChannels <= place {
				return nil, 0, i + 1
			}
			if i+2 < len(lines) || lines[i+1] != "" {
				return nil, 0, i + 2
			}
			return doses, now, 0
		}
		found := dosePattern.FindStringSubmatch(line)
		if found == nil {
			return nil, 0, i + 1
		}
		n := numbers(found)
		if n[0] >= api.MaxTicks || n[1] >= channels || n[2] > api.MaxDose || n[0]*api.MaxChannels+n[1] <= place {
			return nil, 0, i + 1
		}
		place = n[0]*api.MaxChannels + n[1]
		doses = append(doses, api.Dose{Tick: n[0], Channel: n[1], Amount: n[2]})
	}
	panic("the last line has no byte 10, so that no pattern fits it")
}

func drawDoses(r *rand.Rand, channels int) ([]api.Dose, int) {
	var doses []api.Dose
	tick := r.Intn(api.MaxTicks)
	for range r.Intn(4) {
		for k := range channels {
			if tick < api.MaxTicks && r.Intn(2) == 0 {
				doses = append(doses, api.Dose{Tick: tick, Channel: k, Amount: 1 + r.Intn(api.MaxDose)})
			}
		}
		tick += 1 + r.Intn(30)
	}
	least := 0
	if len(doses) > 0 {
		least = doses[len(doses)-1].Tick + 1
	}
	return doses, least + r.Intn(api.MaxTicks-least+1)
}

// TestReadBack: what Write wrote is read as it was.
func TestReadBack(t *testing.T) {
	r := rand.New(rand.NewSource(1))
	for range 500 {
		channels := 1 + r.Intn(api.MaxChannels)
		doses, now := drawDoses(r, channels)
		got, gotNow, wrong := record.Read(record.Write(doses, now), channels)
		if !slices.Equal(got, doses) || gotNow != now || wrong != 0 {
			t.Fatalf("%v, %d are read as %v, %d, %d", doses, now, got, gotNow, wrong)
		}
	}
}

// TestReadEachByte: a journal with one byte that is another one, is there twice or is lost.
func TestReadEachByte(t *testing.T) {
	text := "0 0 1\n0 2 1000\n9 1 10\n10 0 99\n399 2 500\n= 400\n"
	for i := range len(text) {
		for b := range 256 {
			same(t, text[:i]+string([]byte{byte(b)})+text[i+1:], 3)
			same(t, text[:i]+string([]byte{byte(b)})+text[i:], 3)
		}
		same(t, text[:i]+text[i+1:], 3)
		same(t, text[:i], 3)
		same(t, text[i:], 3)
		for channels := 1; channels <= api.MaxChannels; channels++ {
			same(t, text[:i]+text, channels)
			same(t, text+text[:i], channels)
		}
	}
}

// TestReadDrawn: lines of numbers at and beyond their bounds, in any order.
func TestReadDrawn(t *testing.T) {
	r := rand.New(rand.NewSource(2))
	words := []string{"0", "1", "2", "3", "4", "10", "99", "398", "399", "400", "401", "999", "1000", "1001", "00", "01", "-1", "+1", "", "=", "x", "9223372036854775808", "18446744073709551616", "18446744073709551617"}
	few := words[:5]
	for range 50000 {
		var text strings.Builder
		for range r.Intn(5) {
			from := few
			if r.Intn(4) == 0 {
				from = words
			}
			text.WriteString(from[r.Intn(len(from))] + " " + from[r.Intn(len(from))] + " " + from[r.Intn(len(from))] + "\n")
		}
		text.WriteString("= " + words[r.Intn(len(words))] + "\n")
		same(t, text.String(), 1+r.Intn(api.MaxChannels))
	}
}
