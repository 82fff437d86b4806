package pic_test

import (
	"math"
	"math/bits"
	"slices"
	"testing"

	"lightsieve/api"
	"lightsieve/pic"
)

func powers() []int { return []int{1, 2, 4, 8, 16, 32, 64, 128, 256} }

// lists are lists of every power, with small numbers, great ones and the limits.
func lists() [][]int {
	var s numbers
	var all [][]int
	for _, n := range powers() {
		all = append(all, filled(n, top), filled(n, -top), make([]int, n))
		for _, limit := range []int{1, 3, 1000, top} {
			all = append(all, s.list(n, limit), s.list(n, limit))
		}
		ends := s.list(n, 1)
		for i := range ends {
			ends[i] *= top
		}
		all = append(all, ends)
	}
	return all
}

// walsh is the definition.
func walsh(l []int) []int {
	w := make([]int, len(l))
	for i := range w {
		for j, n := range l {
			if bits.OnesCount(uint(i&j))%2 == 1 {
				n = -n
			}
			w[i] += n
		}
	}
	return w
}

// lift is the definition, with a rounding of its own.
func lift(l []int) []int {
	l = slices.Clone(l)
	for n := len(l); n > 1; n /= 2 {
		old := slices.Clone(l)
		for k := range n / 2 {
			a, b := old[2*k], old[2*k+1]
			l[k] = int(math.Floor(float64(a+b) / 2))
			l[n/2+k] = a - b
		}
	}
	return l
}

func TestWalsh(t *testing.T) {
	for _, c := range []struct{ l, w []int }{
		{[]int{1, 2, 3, 4}, []int{10, -2, -4, 0}},
		{[]int{-7}, []int{-7}},
		{[]int{0}, []int{0}},
		{[]int{5, 3}, []int{8, 2}},
		{[]int{0, 1, 0, 0}, []int{1, -1, 1, -1}},
		{[]int{0, 0, 1, 0}, []int{1, 1, -1, -1}},
		{[]int{1, 0, 0, 0, 0, 0, 0, 2}, []int{3, -1, -1, 3, -1, 3, 3, -1}},
	} {
		if w, e := pic.Walsh(c.l); !slices.Equal(w, c.w) || e != api.OK {
			t.Error("Walsh", c.l, w, e)
		}
	}
	for _, l := range lists() {
		if w, e := pic.Walsh(l); !slices.Equal(w, walsh(l)) || e != api.OK {
			t.Error("Walsh", l, w, e)
		}
	}
}

// The transforms take powers alone.
func TestTransformsOfNoPower(t *testing.T) {
	check := func(l []int) {
		t.Helper()
		if w, e := pic.Walsh(l); len(w) != 0 || e != api.ErrInvalid {
			t.Error("Walsh", len(l), w, e)
		}
		if w, e := pic.Lift(l); len(w) != 0 || e != api.ErrInvalid {
			t.Error("Lift", len(l), w, e)
		}
	}
	for _, l := range wrongLists() {
		check(l)
	}
	for n := range 600 {
		if slices.Contains(powers(), n) {
			continue
		}
		l := make([]int, n)
		check(l)
		if w, e := pic.Unwalsh(l); len(w) != 0 || e != api.ErrInvalid {
			t.Error("Unwalsh", n, w, e)
		}
		if w, e := pic.Unlift(l); len(w) != 0 || e != api.ErrInvalid {
			t.Error("Unlift", n, w, e)
		}
	}
}

// P1.2 and P1.3.
func TestWalshBackAndEnergy(t *testing.T) {
	for _, l := range lists() {
		w, _ := pic.Walsh(l)
		if back, e := pic.Unwalsh(w); !slices.Equal(back, l) || e != api.OK {
			t.Error("Unwalsh", l, back, e)
		}
		if a, b := squares(w), len(l)*squares(l); a != b {
			t.Error("energy", l, a, b)
		}
	}
}

func squares(l []int) int {
	sum := 0
	for _, n := range l {
		sum += n * n
	}
	return sum
}

func TestWalshOfWalsh(t *testing.T) {
	var s numbers
	for _, n := range powers() {
		l := s.list(n, 1000)
		w, _ := pic.Walsh(l)
		w, e := pic.Walsh(w)
		for i := range w {
			w[i] -= n * l[i]
		}
		if !slices.Equal(w, make([]int, n)) || e != api.OK {
			t.Error("Walsh of Walsh", l, w, e)
		}
	}
}

func TestWalshOfSum(t *testing.T) {
	var s numbers
	for _, n := range powers() {
		a, b := s.list(n, top/2), s.list(n, top/2)
		sum := slices.Clone(a)
		for i := range sum {
			sum[i] += b[i]
		}
		wa, _ := pic.Walsh(a)
		wb, _ := pic.Walsh(b)
		w, e := pic.Walsh(sum)
		for i := range w {
			w[i] -= wa[i] + wb[i]
		}
		if !slices.Equal(w, make([]int, n)) || e != api.OK {
			t.Error("Walsh of a sum", n, w, e)
		}
	}
}

func TestUnwalsh(t *testing.T) {
	const most = 256 * top
	one := func(n, at, value int) []int {
		l := make([]int, n)
		l[at] = value
		return l
	}
	for _, c := range []struct {
		w, l []int
		e    api.Errno
	}{
		{[]int{10, -2, -4, 0}, []int{1, 2, 3, 4}, api.OK},
		{[]int{-5}, []int{-5}, api.OK},
		{[]int{top}, []int{top}, api.OK},
		{[]int{-top}, []int{-top}, api.OK},
		{[]int{0, 2 * top}, []int{top, -top}, api.OK},
		{one(256, 0, most), filled(256, top), api.OK},
		{one(256, 0, -most), filled(256, -top), api.OK},
		{[]int{1, 0}, nil, api.ErrNone},
		{[]int{-1, 0}, nil, api.ErrNone},
		{[]int{10, -2, -4, 1}, nil, api.ErrNone},
		{[]int{-10, 2, 4, 1}, nil, api.ErrNone},
		{[]int{2, 0, 0, 0}, nil, api.ErrNone},
		{one(256, 255, 128), nil, api.ErrNone},
		{one(256, 0, most-1), nil, api.ErrNone},
		{[]int{top + 1}, nil, api.ErrLimit},
		{[]int{-top - 1}, nil, api.ErrLimit},
		{[]int{most}, nil, api.ErrLimit},
		{[]int{-most}, nil, api.ErrLimit},
		{[]int{2*top + 2, 0}, nil, api.ErrLimit},
		{[]int{top + 1, top + 1}, nil, api.ErrLimit},
		{[]int{-top - 1, top + 1}, nil, api.ErrLimit},
		{filled(256, most), nil, api.ErrLimit},
		{[]int{most + 1}, nil, api.ErrInvalid},
		{[]int{-most - 1}, nil, api.ErrInvalid},
		{[]int{1, most + 1}, nil, api.ErrInvalid},
		{[]int{-most - 1, 1}, nil, api.ErrInvalid},
		{one(256, 255, most+1), nil, api.ErrInvalid},
		{[]int{math.MinInt}, nil, api.ErrInvalid},
		{[]int{math.MaxInt, math.MinInt}, nil, api.ErrInvalid},
	} {
		if l, e := pic.Unwalsh(c.w); !slices.Equal(l, c.l) || e != c.e {
			t.Error("Unwalsh", c.w, l, e)
		}
	}
}

// Of 8000001 1 2 0 the first number is whole and beyond MaxValue, and the second one is not whole.
func TestUnwalshAsksForWholeNumbersFirst(t *testing.T) {
	w := []int{8000001, 1, 2, 0}
	if sums := walsh(w); sums[0]%4 != 0 || sums[0]/4 <= top || sums[1]%4 == 0 {
		t.Fatal("the case is wrong", sums)
	}
	for _, w := range [][]int{w, {-8000001, -1, -2, 0}} {
		if l, e := pic.Unwalsh(w); len(l) != 0 || e != api.ErrNone {
			t.Error("Unwalsh", w, l, e)
		}
	}
}

func TestUnwalshOfSmallLists(t *testing.T) {
	var s numbers
	for range 2000 {
		w := s.list(powers()[s.below(4)], 6)
		want := walsh(w)
		wantE := api.OK
		for i := range want {
			if want[i]%len(w) != 0 {
				wantE = api.ErrNone
			}
			want[i] /= len(w)
		}
		if wantE != api.OK {
			want = nil
		}
		if l, e := pic.Unwalsh(w); !slices.Equal(l, want) || e != wantE {
			t.Fatal("Unwalsh", w, l, e)
		}
	}
}

func TestLift(t *testing.T) {
	for _, c := range []struct{ l, lifted []int }{
		{[]int{5, 2, 7, 7}, []int{5, -4, 3, 0}},
		{[]int{-7}, []int{-7}},
		{[]int{2, 5}, []int{3, -3}},
		{[]int{-3, 0}, []int{-2, -3}},
		{[]int{0, -3}, []int{-2, 3}},
		{[]int{-1, 0}, []int{-1, -1}},
		{[]int{-1, -2}, []int{-2, 1}},
		{[]int{top, -top}, []int{0, 2 * top}},
		{[]int{-top, top}, []int{0, -2 * top}},
		{[]int{top, top, -top, -top}, []int{0, 2 * top, 0, 0}},
		{[]int{-1, 0, -2, -2}, []int{-2, 1, -1, 0}},
		{[]int{1, 2, 3, 4, 5, 6, 7, 8}, []int{4, -4, -2, -2, -1, -1, -1, -1}},
	} {
		if l, e := pic.Lift(c.l); !slices.Equal(l, c.lifted) || e != api.OK {
			t.Error("Lift", c.l, l, e)
		}
		if l, e := pic.Unlift(c.lifted); !slices.Equal(l, c.l) || e != api.OK {
			t.Error("Unlift", c.lifted, l, e)
		}
	}
	for _, l := range lists() {
		lifted, e := pic.Lift(l)
		if !slices.Equal(lifted, lift(l)) || e != api.OK {
			t.Error("Lift", l, lifted, e)
		}
		if back, e := pic.Unlift(lifted); !slices.Equal(back, l) || e != api.OK {
			t.Error("Unlift", l, back, e)
		}
	}
}

// All pairs near 0, where rounding down is not rounding towards 0.
func TestLiftRoundsDown(t *testing.T) {
	for a := -6; a <= 6; a++ {
		for b := -6; b <= 6; b++ {
			want := []int{int(math.Floor(float64(a+b) / 2)), a - b}
			if l, e := pic.Lift([]int{a, b}); !slices.Equal(l, want) || e != api.OK {
				t.Error("Lift", a, b, l, e)
			}
			if l, e := pic.Unlift(want); !slices.Equal(l, []int{a, b}) || e != api.OK {
				t.Error("Unlift", want, l, e)
			}
		}
	}
}

func TestUnlift(t *testing.T) {
	for _, c := range []struct {
		lifted, l []int
		e         api.Errno
	}{
		{[]int{5, -4, 3, 0}, []int{5, 2, 7, 7}, api.OK},
		{[]int{top}, []int{top}, api.OK},
		{[]int{-top}, []int{-top}, api.OK},
		{[]int{0, 2 * top}, []int{top, -top}, api.OK},
		{[]int{0, -2 * top}, []int{-top, top}, api.OK},
		{[]int{4, -3}, []int{3, 6}, api.OK},
		{[]int{-4, -3}, []int{-5, -2}, api.OK},
		{[]int{-4, 3}, []int{-2, -5}, api.OK},
		{[]int{top - 1, 2}, []int{top, top - 2}, api.OK},
		{[]int{-top, 1}, []int{1 - top, -top}, api.OK},
		{[]int{top + 1}, nil, api.ErrLimit},
		{[]int{-top - 1}, nil, api.ErrLimit},
		{[]int{2 * top}, nil, api.ErrLimit},
		{[]int{-2 * top}, nil, api.ErrLimit},
		{[]int{top, 1}, nil, api.ErrLimit},
		{[]int{top, -1}, nil, api.ErrLimit},
		{[]int{-top, 2}, nil, api.ErrLimit},
		{[]int{-top, -2}, nil, api.ErrLimit},
		{[]int{1, 2 * top}, nil, api.ErrLimit},
		{filled(256, 2*top), nil, api.ErrLimit},
		{filled(256, -2*top), nil, api.ErrLimit},
		{[]int{2*top + 1}, nil, api.ErrInvalid},
		{[]int{-2*top - 1}, nil, api.ErrInvalid},
		{[]int{0, 2*top + 1}, nil, api.ErrInvalid},
		{[]int{-2*top - 1, 0, 0, 0}, nil, api.ErrInvalid},
		{[]int{math.MinInt, math.MaxInt}, nil, api.ErrInvalid},
	} {
		if l, e := pic.Unlift(c.lifted); !slices.Equal(l, c.l) || e != c.e {
			t.Error("Unlift", c.lifted, l, e)
		}
	}
}

// Each list is lifted from just one, so that Lift makes again what Unlift took.
func TestLiftOfUnlift(t *testing.T) {
	var s numbers
	for range 1000 {
		lifted := s.list(powers()[s.below(9)], 500)
		l, e := pic.Unlift(lifted)
		if e != api.OK || !slices.Equal(lift(l), lifted) {
			t.Fatal("Unlift", lifted, l, e)
		}
	}
}
