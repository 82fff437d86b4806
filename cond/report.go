package cond

import (
	"strconv"
	"strings"

	"lightsieve/api"
)

// Report returns the shares for 1, 2 and more pixels as long as they are not 1, and the order, in a line each.
func Report(m api.Mask) string {
	c, e := hiddenBy(m)
	if e != api.OK {
		return ""
	}
	var text strings.Builder
	for k := 1; k <= c.pixels; k++ {
		s := c.greatest(most(k))
		if s.N == s.D {
			break
		}
		text.WriteString(strconv.Itoa(k) + " " + strconv.Itoa(s.N) + "/" + strconv.Itoa(s.D) + "\n")
	}
	text.WriteString("order " + strconv.Itoa(c.order()) + "\n")
	return text.String()
}
