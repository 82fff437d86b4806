package mask_test

import (
	"math"
	"slices"
	"testing"

	"lightsieve/api"
	"lightsieve/mask"
)

// three has three columns that differ, also but for their signs.
func three() api.Mask {
	return api.Mask{{1, -1, 0}, {0, 1, 1}}
}

func checkMask(t *testing.T, name string, m api.Mask, e api.Errno, want api.Mask) {
	t.Helper()
	if e != api.OK || !same(m, want) {
		t.Error(name, m, e, "for", want)
	}
}

func checkErrno(t *testing.T, name string, m api.Mask, e, want api.Errno) {
	t.Helper()
	if len(m) != 0 || e != want {
		t.Error(name, m, e, "for the error", want)
	}
}

func TestChosen(t *testing.T) {
	for _, c := range []struct {
		pixels []int
		want   api.Mask
	}{
		{[]int{0}, api.Mask{{1}, {0}}},
		{[]int{2}, api.Mask{{0}, {1}}},
		{[]int{0, 1}, api.Mask{{1, -1}, {0, 1}}},
		{[]int{0, 2}, api.Mask{{1, 0}, {0, 1}}},
		{[]int{1, 2}, api.Mask{{-1, 0}, {1, 1}}},
		{[]int{0, 1, 2}, three()},
	} {
		m, e := mask.Chosen(three(), c.pixels)
		checkMask(t, "Chosen", m, e, c.want)
	}
	var s numbers
	for _, m := range masks() {
		pixels := s.subset(len(m[0]))
		part, e := mask.Chosen(m, pixels)
		if len(pixels) == 0 {
			checkErrno(t, "Chosen without pixels", part, e, api.ErrRange)
			continue
		}
		if e != api.OK || !mask.Valid(part) || len(part) != len(m) || len(part[0]) != len(pixels) {
			t.Fatal("Chosen", m, pixels, part, e)
		}
		for k, j := range pixels {
			if !slices.Equal(columnOf(part, k), columnOf(m, j)) {
				t.Fatal("Chosen", m, pixels, part)
			}
		}
	}
}

// wrongPixels are lists of pixels of three columns; a pixel that there is not is told ahead of a wrong order.
func wrongPixels() []struct {
	pixels []int
	e      api.Errno
} {
	return []struct {
		pixels []int
		e      api.Errno
	}{
		{[]int{3}, api.ErrName}, {[]int{-1}, api.ErrName}, {[]int{0, 3}, api.ErrName}, {[]int{-1, 0}, api.ErrName}, {[]int{0, 1, 2, 3}, api.ErrName},
		{[]int{math.MaxInt}, api.ErrName}, {[]int{math.MinInt}, api.ErrName},
		{[]int{3, 0}, api.ErrName}, {[]int{3, 3}, api.ErrName}, {[]int{1, 0, 3}, api.ErrName}, {[]int{0, -1}, api.ErrName}, {[]int{1, 1, -1}, api.ErrName},
		{[]int{0, 0}, api.ErrRange}, {[]int{1, 0}, api.ErrRange}, {[]int{0, 2, 1}, api.ErrRange}, {[]int{0, 1, 1}, api.ErrRange}, {[]int{2, 1, 0}, api.ErrRange},
		{[]int{0, 1, 2, 0}, api.ErrRange}, {[]int{0, 1, 2, 2}, api.ErrRange}, {filled(1000, 2), api.ErrRange}, {filled(1000, 3), api.ErrName},
	}
}

func TestErrorsOfChosenAndSigned(t *testing.T) {
	for _, c := range wrongPixels() {
		m, e := mask.Chosen(three(), c.pixels)
		checkErrno(t, "Chosen", m, e, c.e)
		m, e = mask.Signed(three(), c.pixels)
		checkErrno(t, "Signed", m, e, c.e)
	}
	for _, none := range [][]int{nil, {}} {
		m, e := mask.Chosen(three(), none)
		checkErrno(t, "Chosen without pixels", m, e, api.ErrRange)
		m, e = mask.Signed(three(), none)
		checkMask(t, "Signed without pixels", m, e, three())
	}
	for _, wrong := range wrongMasks() {
		for _, pixels := range [][]int{nil, {0}, {1, 0}, {-1}, {100}} {
			m, e := mask.Chosen(wrong, pixels)
			checkErrno(t, "Chosen", m, e, api.ErrInvalid)
			m, e = mask.Signed(wrong, pixels)
			checkErrno(t, "Signed", m, e, api.ErrInvalid)
			m, e = mask.Permuted(wrong, pixels)
			checkErrno(t, "Permuted", m, e, api.ErrInvalid)
		}
	}
}

func TestStacked(t *testing.T) {
	m, e := mask.Stacked(three(), api.Mask{{-1, 0, 1}})
	checkMask(t, "Stacked", m, e, api.Mask{{1, -1, 0}, {0, 1, 1}, {-1, 0, 1}})
	m, e = mask.Stacked(api.Mask{{-1, 0, 1}}, three())
	checkMask(t, "Stacked", m, e, api.Mask{{-1, 0, 1}, {1, -1, 0}, {0, 1, 1}})
	for rows := 1; rows <= 6; rows++ {
		for more := 1; more <= 6; more++ {
			for pixels := 1; pixels <= 10; pixels++ {
				m, e := mask.Stacked(full(rows, pixels, 1), full(more, pixels, -1))
				if rows+more > 6 {
					checkErrno(t, "Stacked", m, e, api.ErrLimit)
				} else {
					checkMask(t, "Stacked", m, e, append(full(rows, pixels, 1), full(more, pixels, -1)...))
				}
				m, e = mask.Stacked(full(rows, pixels, 1), full(more, pixels%10+1, -1))
				checkErrno(t, "Stacked of other pixels", m, e, api.ErrSize)
			}
		}
	}
	for _, wrong := range wrongMasks() {
		for _, right := range []api.Mask{{{1}}, {{1, 0}}, full(6, 10, 1)} {
			m, e := mask.Stacked(right, wrong)
			checkErrno(t, "Stacked", m, e, api.ErrInvalid)
			m, e = mask.Stacked(wrong, right)
			checkErrno(t, "Stacked", m, e, api.ErrInvalid)
		}
		m, e := mask.Stacked(wrong, wrong)
		checkErrno(t, "Stacked", m, e, api.ErrInvalid)
	}
}

// P2.4.
func TestStackedReadsBoth(t *testing.T) {
	var s numbers
	for range 200 {
		rows, pixels := 1+s.below(5), 1+s.below(10)
		a, b := s.mask(rows, pixels), s.mask(1+s.below(6-rows), pixels)
		x := s.list(pixels, top)
		m, e := mask.Stacked(a, b)
		both, f := mask.Read(m, x)
		first, _ := mask.Read(a, x)
		second, _ := mask.Read(b, x)
		if e != api.OK || f != api.OK || !slices.Equal(both, slices.Concat(first, second)) {
			t.Fatal("Stacked", a, b, m, x, both)
		}
	}
}

func TestWithout(t *testing.T) {
	rows := api.Mask{{1, 0}, {0, 1}, {-1, -1}}
	for row, want := range []api.Mask{{{0, 1}, {-1, -1}}, {{1, 0}, {-1, -1}}, {{1, 0}, {0, 1}}} {
		m, e := mask.Without(rows, row)
		checkMask(t, "Without", m, e, want)
	}
	for _, m := range masks() {
		for row := range m {
			less, e := mask.Without(m, row)
			if len(m) == 1 {
				checkErrno(t, "Without the only row", less, e, api.ErrNone)
			} else {
				checkMask(t, "Without", less, e, slices.Concat(m[:row], m[row+1:]))
			}
		}
		for _, row := range []int{-1, len(m), len(m) + 1, math.MinInt, math.MaxInt} {
			less, e := mask.Without(m, row)
			checkErrno(t, "Without a row that there is not", less, e, api.ErrName)
		}
	}
	for _, wrong := range wrongMasks() {
		for _, row := range []int{0, 1, -1, 100} {
			m, e := mask.Without(wrong, row)
			checkErrno(t, "Without", m, e, api.ErrInvalid)
		}
	}
}

func TestPermuted(t *testing.T) {
	for _, c := range []struct {
		order []int
		want  api.Mask
	}{
		{[]int{0, 1, 2}, three()},
		{[]int{1, 2, 0}, api.Mask{{-1, 0, 1}, {1, 1, 0}}},
		{[]int{2, 0, 1}, api.Mask{{0, 1, -1}, {1, 0, 1}}},
		{[]int{2, 1, 0}, api.Mask{{0, -1, 1}, {1, 1, 0}}},
	} {
		m, e := mask.Permuted(three(), c.order)
		checkMask(t, "Permuted", m, e, c.want)
	}
	m, e := mask.Permuted(api.Mask{{-1}}, []int{0})
	checkMask(t, "Permuted", m, e, api.Mask{{-1}})
	for _, c := range []struct {
		order []int
		e     api.Errno
	}{
		{nil, api.ErrSize}, {[]int{}, api.ErrSize}, {[]int{0, 1}, api.ErrSize}, {[]int{0, 1, 2, 3}, api.ErrSize}, {[]int{0, 1, 2, 0}, api.ErrSize}, {[]int{0, 3}, api.ErrSize}, {[]int{-1}, api.ErrSize}, {[]int{0, 0}, api.ErrSize}, {filled(1000, 0), api.ErrSize},
		{[]int{0, 1, 3}, api.ErrName}, {[]int{-1, 1, 2}, api.ErrName}, {[]int{3, 3, 3}, api.ErrName}, {[]int{0, 0, 3}, api.ErrName}, {[]int{-1, 1, 1}, api.ErrName}, {[]int{math.MinInt, 0, math.MaxInt}, api.ErrName},
		{[]int{0, 0, 1}, api.ErrRange}, {[]int{0, 1, 1}, api.ErrRange}, {[]int{2, 0, 2}, api.ErrRange}, {[]int{1, 1, 1}, api.ErrRange},
	} {
		m, e := mask.Permuted(three(), c.order)
		checkErrno(t, "Permuted", m, e, c.e)
	}
}

func TestSigned(t *testing.T) {
	for _, c := range []struct {
		pixels []int
		want   api.Mask
	}{
		{[]int{0}, api.Mask{{-1, -1, 0}, {0, 1, 1}}},
		{[]int{1}, api.Mask{{1, 1, 0}, {0, -1, 1}}},
		{[]int{0, 2}, api.Mask{{-1, -1, 0}, {0, 1, -1}}},
		{[]int{0, 1, 2}, api.Mask{{-1, 1, 0}, {0, -1, -1}}},
	} {
		m, e := mask.Signed(three(), c.pixels)
		checkMask(t, "Signed", m, e, c.want)
	}
}

// P2.3: what is done to the mask and to the picture is not read, nor seen in the coherence.
func TestPermutedAndSignedReadAlike(t *testing.T) {
	var s numbers
	for _, m := range columnMasks() {
		pixels := len(m[0])
		x := s.list(pixels, top)
		read, _ := mask.Read(m, x)
		coherence, none := mask.Coherence(m)
		check := func(name string, other api.Mask, e api.Errno, y []int) {
			t.Helper()
			again, f := mask.Read(other, y)
			if e != api.OK || f != api.OK || !slices.Equal(again, read) {
				t.Fatal(name, m, other, e, x, y, read, again)
			}
			if r, f := mask.Coherence(other); r != coherence || f != none {
				t.Fatal(name, m, other, "Coherence", coherence, r, f)
			}
		}
		order := s.order(pixels)
		permuted, e := mask.Permuted(m, order)
		y := make([]int, pixels)
		for k, j := range order {
			y[k] = x[j]
		}
		check("Permuted", permuted, e, y)
		signs := s.subset(pixels)
		signed, e := mask.Signed(m, signs)
		z := slices.Clone(x)
		for _, j := range signs {
			z[j] = -z[j]
		}
		check("Signed", signed, e, z)
	}
}
