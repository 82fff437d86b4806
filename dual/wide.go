package dual

import (
	"cmp"
	"math/bits"
)

// wide is a whole number of 128 bits with a sign (its two's complement).
type wide struct{ high, low uint64 }

func widened(n int) wide {
	return wide{uint64(n >> 63), uint64(n)}
}

func (a wide) plus(b wide) wide {
	low, carry := bits.Add64(a.low, b.low, 0)
	high, _ := bits.Add64(a.high, b.high, carry)
	return wide{high, low}
}

func (a wide) times(n int) wide {
	b := widened(n)
	high, low := bits.Mul64(a.low, b.low)
	return wide{high + a.high*b.low + a.low*b.high, low}
}

func (a wide) compare(b wide) int {
	return cmp.Or(cmp.Compare(int64(a.high), int64(b.high)), cmp.Compare(a.low, b.low))
}

// over divides a number that is not below 0 by one above 0.
func (a wide) over(n int) (quotient wide, rest uint64) {
	by := uint64(n)
	low, rest := bits.Div64(a.high%by, a.low, by)
	return wide{a.high / by, low}, rest
}
