package dual_test

import (
	"math/big"
	"slices"
	"testing"

	"lightsieve/api"
	"lightsieve/dual"
)

func TestNorm(t *testing.T) {
	for _, c := range []struct {
		x    []api.Ratio
		want api.Ratio
		e    api.Errno
	}{
		{wholes(0), ratio(0, 1), api.OK}, {wholes(5), ratio(5, 1), api.OK}, {wholes(-5), ratio(5, 1), api.OK}, {wholes(1, -2, 3), ratio(6, 1), api.OK}, {wholes(filled(10, 0)...), ratio(0, 1), api.OK}, {wholes(filled(10, -1000000000)...), ratio(10000000000, 1), api.OK},
		{[]api.Ratio{ratio(1, 2), ratio(-1, 2)}, ratio(1, 1), api.OK}, {[]api.Ratio{ratio(1, 2), ratio(-1, 3)}, ratio(5, 6), api.OK}, {[]api.Ratio{ratio(-1, 6), ratio(-1, 3), ratio(1, 2), ratio(0, 1)}, ratio(1, 1), api.OK}, {[]api.Ratio{ratio(3, 400), ratio(1, 400)}, ratio(1, 100), api.OK}, {filledRatios(10, ratio(-1, 400)), ratio(1, 40), api.OK}, {filledRatios(10, ratio(1, 397)), ratio(10, 397), api.OK},
		// Great denominators in between, of which little is left.
		{[]api.Ratio{ratio(1, 399), ratio(398, 399), ratio(1, 397), ratio(-396, 397), ratio(1, 391), ratio(390, 391), ratio(-1, 389), ratio(388, 389), ratio(1, 383), ratio(-382, 383)}, ratio(5, 1), api.OK},
		{[]api.Ratio{ratio(1, 399), ratio(-398, 399), ratio(-1, 397), ratio(396, 397), ratio(1, 391), ratio(390, 391), ratio(1, 389), ratio(388, 389), ratio(1, 383), ratio(381, 383)}, ratio(1914, 383), api.OK},
		{[]api.Ratio{ratio(9999999999, 400), ratio(1, 400)}, ratio(25000000, 1), api.OK}, {[]api.Ratio{ratio(10000000000, 399), ratio(-10000000000, 397)}, ratio(0, 0), api.ErrLimit},
		// The parts are at their limits, and beyond them.
		{[]api.Ratio{ratio(1, 20), ratio(1, 400)}, ratio(21, 400), api.OK}, {[]api.Ratio{ratio(1, 16), ratio(1, 25)}, ratio(41, 400), api.OK}, {[]api.Ratio{ratio(1, 3), ratio(1, 133)}, ratio(136, 399), api.OK}, {[]api.Ratio{ratio(1, 3), ratio(1, 134)}, ratio(0, 0), api.ErrLimit}, {[]api.Ratio{ratio(1, 20), ratio(1, 21)}, ratio(0, 0), api.ErrLimit}, {[]api.Ratio{ratio(1, 399), ratio(1, 400)}, ratio(0, 0), api.ErrLimit},
		{wholes(10000000000), ratio(10000000000, 1), api.OK}, {wholes(-10000000000), ratio(10000000000, 1), api.OK}, {wholes(9999999999, -1), ratio(10000000000, 1), api.OK}, {wholes(10000000000, 1), ratio(0, 0), api.ErrLimit}, {wholes(-10000000000, 1), ratio(0, 0), api.ErrLimit}, {wholes(10000000000, -10000000000), ratio(0, 0), api.ErrLimit}, {wholes(filled(10, 10000000000)...), ratio(0, 0), api.ErrLimit}, {[]api.Ratio{ratio(9999999999, 400), ratio(2, 399)}, ratio(0, 0), api.ErrLimit}, {[]api.Ratio{ratio(9999999999, 2), ratio(1, 2)}, ratio(5000000000, 1), api.OK}, {[]api.Ratio{ratio(9999999999, 2), ratio(2, 1)}, ratio(0, 0), api.ErrLimit}, {[]api.Ratio{ratio(9999999997, 2), ratio(-1, 1)}, ratio(9999999999, 2), api.OK},
		{slices.Concat(filledRatios(5, ratio(10000000000, 399)), filledRatios(5, ratio(-10000000000, 397))), ratio(0, 0), api.ErrLimit}, {filledRatios(10, ratio(9999999999, 400)), ratio(9999999999, 40), api.OK},
		{nil, ratio(0, 0), api.ErrSize}, {[]api.Ratio{}, ratio(0, 0), api.ErrSize}, {filledRatios(11, ratio(0, 1)), ratio(0, 0), api.ErrSize}, {filledRatios(300, ratio(10000000000, 1)), ratio(0, 0), api.ErrSize},
	} {
		if r, e := dual.Norm(c.x); r != c.want || e != c.e {
			t.Error("Norm", c.x, r, e)
		}
	}
}

func TestNormOfWrongFractions(t *testing.T) {
	for _, wrong := range wrongRatios() {
		for _, x := range [][]api.Ratio{{wrong}, {ratio(1, 1), wrong}, {wrong, ratio(1, 1)}, append(filledRatios(10, ratio(1, 2)), wrong), append(wholes(10000000000, 10000000000), wrong), filledRatios(11, wrong)} {
			if r, e := dual.Norm(x); r != ratio(0, 0) || e != api.ErrInvalid {
				t.Error("Norm", x, r, e)
			}
		}
	}
}

// fraction is a valid one whose denominator is up to a limit.
func (s *numbers) fraction(upper, lower int) api.Ratio {
	r := big.NewRat(int64(s.below(2*upper+1)-upper), int64(1+s.below(lower)))
	return ratio(int(r.Num().Int64()), int(r.Denom().Int64()))
}

func (s *numbers) fractions(n, upper, lower int) []api.Ratio {
	var l []api.Ratio
	for range n {
		l = append(l, s.fraction(upper, lower))
	}
	return l
}

// asRatio is the fraction as it is told, if it is a valid one.
func asRatio(r *big.Rat) (api.Ratio, api.Errno) {
	if !r.Num().IsInt64() || !r.Denom().IsInt64() {
		return api.Ratio{}, api.ErrLimit
	}
	told := ratio(int(r.Num().Int64()), int(r.Denom().Int64()))
	if !isValid(told) {
		return api.Ratio{}, api.ErrLimit
	}
	return told, api.OK
}

func TestNormOfAnyFractions(t *testing.T) {
	var s numbers
	limits := 0
	for range 20000 {
		x := s.fractions(1+s.below(10), []int{3, 400, 1000000, 10000000000}[s.below(4)], []int{1, 2, 6, 24, 60, 400}[s.below(6)])
		want, e := asRatio(normOf(x))
		if r, f := dual.Norm(x); r != want || f != e {
			t.Fatal("Norm", x, r, f, want, e)
		}
		if e != api.OK {
			limits++
		}
	}
	if limits < 2000 || limits > 18000 {
		t.Error("norms that are no valid fractions:", limits)
	}
}

func TestMixed(t *testing.T) {
	for _, c := range []struct {
		a, b, want []api.Ratio
		e          api.Errno
	}{
		{nil, nil, nil, api.OK}, {[]api.Ratio{}, nil, nil, api.OK}, {wholes(1), wholes(3), wholes(2), api.OK}, {wholes(1), wholes(2), []api.Ratio{ratio(3, 2)}, api.OK}, {wholes(1, 0, -1), wholes(0, 1, -1), []api.Ratio{ratio(1, 2), ratio(1, 2), ratio(-1, 1)}, api.OK}, {wholes(5), wholes(-5), wholes(0), api.OK}, {[]api.Ratio{ratio(1, 3)}, []api.Ratio{ratio(1, 5)}, []api.Ratio{ratio(4, 15)}, api.OK}, {[]api.Ratio{ratio(-1, 3)}, []api.Ratio{ratio(1, 6)}, []api.Ratio{ratio(-1, 12)}, api.OK},
		{[]api.Ratio{ratio(1, 200)}, wholes(0), []api.Ratio{ratio(1, 400)}, api.OK}, {[]api.Ratio{ratio(1, 201)}, wholes(0), nil, api.ErrLimit}, {[]api.Ratio{ratio(1, 400)}, []api.Ratio{ratio(1, 400)}, []api.Ratio{ratio(1, 400)}, api.OK}, {[]api.Ratio{ratio(1, 400)}, []api.Ratio{ratio(3, 400)}, []api.Ratio{ratio(1, 200)}, api.OK}, {[]api.Ratio{ratio(1, 400)}, wholes(0), nil, api.ErrLimit}, {wholes(1, 1), []api.Ratio{ratio(1, 1), ratio(1, 399)}, []api.Ratio{ratio(1, 1), ratio(200, 399)}, api.OK}, {wholes(1, 2), []api.Ratio{ratio(1, 1), ratio(1, 399)}, nil, api.ErrLimit}, {wholes(2, 1), []api.Ratio{ratio(1, 399), ratio(1, 1)}, nil, api.ErrLimit},
		{wholes(10000000000), wholes(10000000000), wholes(10000000000), api.OK}, {wholes(-10000000000), wholes(-10000000000), wholes(-10000000000), api.OK}, {wholes(10000000000), wholes(9999999999), nil, api.ErrLimit}, {wholes(-10000000000), wholes(-9999999999), nil, api.ErrLimit}, {wholes(10000000000), wholes(-10000000000), wholes(0), api.OK}, {wholes(9999999999), wholes(0), []api.Ratio{ratio(9999999999, 2)}, api.OK}, {[]api.Ratio{ratio(9999999999, 400)}, []api.Ratio{ratio(9999999999, 400)}, []api.Ratio{ratio(9999999999, 400)}, api.OK}, {[]api.Ratio{ratio(9999999999, 400)}, []api.Ratio{ratio(9999999997, 400)}, []api.Ratio{ratio(4999999999, 200)}, api.OK}, {[]api.Ratio{ratio(10000000000, 399)}, []api.Ratio{ratio(9999999998, 399)}, []api.Ratio{ratio(3333333333, 133)}, api.OK},
		{wholes(1), nil, nil, api.ErrSize}, {nil, wholes(1), nil, api.ErrSize}, {wholes(1, 2), wholes(1), nil, api.ErrSize}, {[]api.Ratio{ratio(1, 400)}, wholes(0, 0), nil, api.ErrSize},
		// Longer than a picture of a mask.
		{filledRatios(300, ratio(1, 2)), filledRatios(300, ratio(1, 3)), filledRatios(300, ratio(5, 12)), api.OK},
	} {
		if x, e := dual.Mixed(c.a, c.b); !slices.Equal(x, c.want) || e != c.e {
			t.Error("Mixed", c.a, c.b, x, e)
		}
	}
	for _, wrong := range wrongRatios() {
		for _, l := range [][]api.Ratio{{}, wholes(1), wholes(1, 2), {ratio(1, 400)}} {
			for _, x := range [][]api.Ratio{{wrong}, {ratio(1, 1), wrong}, {wrong, ratio(1, 1)}} {
				a, e := dual.Mixed(x, l)
				b, f := dual.Mixed(l, x)
				if len(a) != 0 || len(b) != 0 || e != api.ErrInvalid || f != api.ErrInvalid {
					t.Error("Mixed", x, l, a, e, b, f)
				}
			}
		}
	}
}

func TestMixedOfAnyFractions(t *testing.T) {
	var s numbers
	for range 20000 {
		upper, lower := []int{3, 400, 1000000, 10000000000}[s.below(4)], []int{1, 2, 6, 20, 400}[s.below(5)]
		a, b := s.fraction(upper, lower), s.fraction(upper, lower)
		middle := new(big.Rat).Add(bigRatio(a), bigRatio(b))
		want, e := asRatio(middle.Mul(middle, big.NewRat(1, 2)))
		x, f := dual.Mixed([]api.Ratio{a}, []api.Ratio{b})
		if f != e || e == api.OK && (len(x) != 1 || x[0] != want) || e != api.OK && len(x) != 0 {
			t.Fatal("Mixed", a, b, x, f, want, e)
		}
	}
}
