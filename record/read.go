package record

import (
	"strings"

	"drip/api"
)

// Read answers the doses and now of a pump of so many channels, and 0; of a text that is no journal of such a pump only the number (from 1) of the first line at which it can't be one any more. Limits are not looked at.
func Read(text string, channels int) ([]api.Dose, int, int) {
	var doses []api.Dose
	last := api.Dose{Tick: -1} // ahead of all that may be
	for number := 1; ; number++ {
		line, after, ended := strings.Cut(text, "\n")
		if !ended {
			return nil, 0, number
		}
		if now, holds := readNow(line, last.Tick); holds && after == "" {
			return doses, now, 0
		} else if holds {
			return nil, 0, number + 1
		}
		d, holds := readDose(line, channels)
		if !holds || !follows(d, last) {
			return nil, 0, number
		}
		doses = append(doses, d)
		last, text = d, after
	}
}

func readNow(line string, lastTick int) (int, bool) {
	told, marked := strings.CutPrefix(line, lastMark)
	if !marked {
		return 0, false
	}
	return readNumber(told, lastTick+1, api.MaxTicks)
}

// readDose takes no tick that has no now above it: such a line can be followed by no last one.
func readDose(line string, channels int) (api.Dose, bool) {
	first, others, _ := strings.Cut(line, " ")
	second, third, _ := strings.Cut(others, " ")
	tick, tickHolds := readNumber(first, 0, api.MaxTicks-1)
	channel, channelHolds := readNumber(second, 0, channels-1)
	amount, amountHolds := readNumber(third, 1, api.MaxDose)
	return api.Dose{Tick: tick, Channel: channel, Amount: amount}, tickHolds && channelHolds && amountHolds
}

func follows(d, last api.Dose) bool {
	return d.Tick > last.Tick || d.Tick == last.Tick && d.Channel > last.Channel
}

// readNumber takes a number as Write writes it only; it stops at the most there may be, so that no text is too long for it.
func readNumber(digits string, least, most int) (int, bool) {
	if digits == "" || len(digits) > 1 && digits[0] == '0' {
		return 0, false
	}
	n := 0
	for i := range len(digits) {
		if digits[i] < '0' || digits[i] > '9' {
			return 0, false
		}
		n = 10*n + int(digits[i]-'0')
		if n > most {
			return 0, false
		}
	}
	return n, n >= least
}
