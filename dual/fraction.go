package dual

import "lightsieve/api"

// The limits of the parts of a valid fraction.
const (
	maxUpper = 10000000000
	maxLower = 400
)

// sum is an exact sum of fractions over the product of their denominators.
type sum struct{ n, d wide }

// Norm returns the sum of the sizes of fractions.
func Norm(x []api.Ratio) (api.Ratio, api.Errno) {
	if !valid(x...) {
		return api.Ratio{}, api.ErrInvalid
	}
	if len(x) < 1 || len(x) > api.MaxPixels {
		return api.Ratio{}, api.ErrSize
	}
	norm, is := normOf(x)
	if !is {
		return api.Ratio{}, api.ErrLimit
	}
	return norm, api.OK
}

// Mixed returns the picture half way between two.
func Mixed(a, b []api.Ratio) ([]api.Ratio, api.Errno) {
	if !valid(a...) || !valid(b...) {
		return nil, api.ErrInvalid
	}
	if len(a) != len(b) {
		return nil, api.ErrSize
	}
	x := make([]api.Ratio, len(a))
	for j := range a {
		x[j] = half(a[j], b[j])
	}
	if !valid(x...) {
		return nil, api.ErrLimit
	}
	return x, api.OK
}

func half(a, b api.Ratio) api.Ratio {
	n, d := a.N*b.D+b.N*a.D, 2*a.D*b.D
	common := divisor(n, d)
	return api.Ratio{N: n / common, D: d / common}
}

// normOf tells whether the norm of up to ten valid fractions is one, too.
func normOf(x []api.Ratio) (norm api.Ratio, is bool) {
	sizes := make([]api.Ratio, len(x))
	for j, r := range x {
		sizes[j] = api.Ratio{N: max(r.N, -r.N), D: r.D}
	}
	return total(sizes...).lowest()
}

// total adds up ten valid fractions, or six that were multiplied by numbers of a reading.
// No number is beyond 6 * 10^16 * 400^5 or 10 * 10^10 * 400^9, so that it may still be multiplied by 400.
func total(l ...api.Ratio) sum {
	s := sum{widened(0), widened(1)}
	for _, r := range l {
		s.n = s.n.times(r.D).plus(s.d.times(r.N))
		s.d = s.d.times(r.D)
	}
	return s
}

// compare compares a sum with a valid fraction.
func (s sum) compare(r api.Ratio) int {
	return s.n.times(r.D).compare(s.d.times(r.N))
}

// lowest is the valid fraction that a sum is, if it is one and not below 0.
// The product of the denominators has no prime above the greatest of them, so that all common divisors are found.
func (s sum) lowest() (r api.Ratio, is bool) {
	for by := 2; by <= maxLower && s.d.compare(widened(by)) >= 0; {
		n, restOfN := s.n.over(by)
		d, restOfD := s.d.over(by)
		if restOfN == 0 && restOfD == 0 {
			s = sum{n, d}
		} else {
			by++
		}
	}
	if s.n.compare(widened(maxUpper)) > 0 || s.d.compare(widened(maxLower)) > 0 {
		return api.Ratio{}, false
	}
	return api.Ratio{N: int(s.n.low), D: int(s.d.low)}, true
}

// valid takes 0 with the denominator 1 alone, since its common divisor with any number is that number.
func valid(l ...api.Ratio) bool {
	for _, r := range l {
		if r.D < 1 || r.D > maxLower || r.N < -maxUpper || r.N > maxUpper || divisor(r.N, r.D) != 1 {
			return false
		}
	}
	return true
}

// divisor is the greatest common one of a number and one above 0.
func divisor(n, d int) int {
	for n != 0 {
		n, d = d%n, n
	}
	return max(d, -d)
}
