// Package record: the text of a journal, which tells what a pump gave and where it stands in time.
package record

import (
	"strconv"
	"strings"

	"drip/api"
)

const lastMark = "= " // what the last line begins with, and no other one

// Write tells doses, which stand in order, and now.
func Write(doses []api.Dose, now int) string {
	var text strings.Builder
	for _, d := range doses {
		text.WriteString(doseLine(d))
	}
	text.WriteString(lastMark + strconv.Itoa(now) + "\n")
	return text.String()
}

func doseLine(d api.Dose) string {
	return strconv.Itoa(d.Tick) + " " + strconv.Itoa(d.Channel) + " " + strconv.Itoa(d.Amount) + "\n"
}
