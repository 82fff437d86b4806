package lin

import "lightsieve/api"

// The limits of the parts of a valid fraction.
const (
	maxUpper = 10000000000
	maxLower = 400
)

// Makes reports whether the readings of a picture of fractions are, exactly, a reading.
func Makes(m api.Mask, x []api.Ratio, y []int) bool {
	if !Reading(m, y) || len(x) != len(m[0]) {
		return false
	}
	for _, r := range x {
		if !validFraction(r) {
			return false
		}
	}
	for i, row := range m {
		if !addUp(row, x, y[i]) {
			return false
		}
	}
	return true
}

// Compare returns -1, 0 or 1 as a is less than, equal to or greater than b; a denominator that is not above 0 counts as 1.
func Compare(a, b api.Ratio) int {
	left := widened(a.N).times(widened(lower(b)))
	right := widened(b.N).times(widened(lower(a)))
	return left.compare(right)
}

func lower(r api.Ratio) int {
	if r.D <= 0 {
		return 1
	}
	return r.D
}

// validFraction takes 0 with the denominator 1 alone, since its common divisor with any number is that number.
func validFraction(r api.Ratio) bool {
	if r.D < 1 || r.D > maxLower || r.N < -maxUpper || r.N > maxUpper {
		return false
	}
	return divisor(r.N, r.D) == 1
}

// addUp reports whether a row reads a sum of valid fractions.
// With ten of them, no number in between is beyond 10 * 10^10 * 400^9, so that wide ones hold all.
func addUp(row []int, x []api.Ratio, sum int) bool {
	n, d := widened(0), widened(1)
	for j, r := range x {
		n = n.times(widened(r.D)).plus(d.times(widened(row[j] * r.N)))
		d = d.times(widened(r.D))
	}
	return n == d.times(widened(sum))
}

// lowest takes a denominator above 0.
func lowest(n, d int) api.Ratio {
	common := divisor(n, d)
	return api.Ratio{N: n / common, D: d / common}
}

// divisor is the greatest common one, and 0 if all numbers are 0.
func divisor(l ...int) int {
	common := 0
	for _, n := range l {
		for n != 0 {
			common, n = n, common%n
		}
	}
	return max(common, -common)
}
