package pic_test

import (
	"math"
	"slices"
	"testing"

	"lightsieve/api"
	"lightsieve/pic"
)

const top = api.MaxValue

func picture(wide, high int, pix ...int) api.Picture {
	return api.Picture{Wide: wide, High: high, Pix: pix}
}

func filled(n, value int) []int {
	return slices.Repeat([]int{value}, n)
}

// numbers is a fixed row of numbers that look like chance.
type numbers uint64

func (s *numbers) below(n int) int {
	*s = *s*6364136223846793005 + 1442695040888963407
	return int(uint64(*s)>>33) % n
}

func (s *numbers) list(n, limit int) []int {
	l := make([]int, n)
	for i := range l {
		l[i] = s.below(2*limit+1) - limit
	}
	return l
}

func (s *numbers) picture(limit int) api.Picture {
	wide, high := 1+s.below(api.MaxSide), 1+s.below(api.MaxSide)
	return picture(wide, high, s.list(wide*high, limit)...)
}

func same(a, b api.Picture) bool {
	return a.Wide == b.Wide && a.High == b.High && slices.Equal(a.Pix, b.Pix)
}

func isZero(p api.Picture) bool {
	return p.Wide == 0 && p.High == 0 && len(p.Pix) == 0
}

func size(n int) int {
	return max(n, -n)
}

func sizeOf(l []int) int {
	sum := 0
	for _, n := range l {
		sum += size(n)
	}
	return sum
}

// wrongPictures are pictures that are not valid, each for one reason.
func wrongPictures() []api.Picture {
	wrap := 1 << 32
	return []api.Picture{
		{},
		{Wide: 1, High: 1},
		picture(0, 1), picture(1, 0), picture(0, 0, 1), picture(0, 1, 1), picture(1, 0, 1),
		picture(-1, -1, 1), picture(-2, 3, 1, 2, 3, 4, 5, 6), picture(-1, 1), picture(1, -1, 1),
		picture(2, 2, 1, 2, 3), picture(2, 2, 1, 2, 3, 4, 5), picture(1, 1, 1, 2), picture(2, 1, 1),
		picture(17, 1, make([]int, 17)...), picture(1, 17, make([]int, 17)...), picture(16, 17, make([]int, 272)...), picture(32, 8, make([]int, 256)...),
		picture(wrap, wrap), picture(math.MaxInt, math.MaxInt, 1), picture(math.MinInt, math.MinInt), picture(math.MinInt, 2),
		picture(1, 1, top+1), picture(1, 1, -top-1), picture(2, 2, 0, 0, 0, top+1), picture(2, 2, -top-1, 0, 0, 0),
		picture(1, 1, math.MinInt), picture(1, 1, math.MaxInt),
	}
}

// wrongLists are lists that are not valid, each for one reason.
func wrongLists() [][]int {
	return [][]int{
		nil, {}, make([]int, 257), make([]int, 512), make([]int, 65536),
		{top + 1}, {-top - 1}, {0, 0, 0, top + 1}, {-top - 1, 0, 0, 0}, {math.MinInt}, {math.MaxInt},
		append(make([]int, 255), top+1),
	}
}

func TestValid(t *testing.T) {
	for _, p := range wrongPictures() {
		if pic.Valid(p) {
			t.Errorf("Valid(%d, %d, %d numbers)", p.Wide, p.High, len(p.Pix))
		}
	}
	for wide := 1; wide <= 16; wide++ {
		for high := 1; high <= 16; high++ {
			if !pic.Valid(picture(wide, high, make([]int, wide*high)...)) {
				t.Error("not Valid", wide, high)
			}
		}
	}
	for _, n := range []int{top, -top, 0, 1, -1} {
		if !pic.Valid(picture(1, 1, n)) || !pic.Valid(picture(16, 16, filled(256, n)...)) {
			t.Error("not Valid", n)
		}
	}
}

func TestValidList(t *testing.T) {
	for _, l := range wrongLists() {
		if pic.ValidList(l) {
			t.Error("ValidList", len(l))
		}
	}
	for n := 1; n <= 256; n++ {
		if !pic.ValidList(make([]int, n)) || !pic.ValidList(filled(n, top)) || !pic.ValidList(filled(n, -top)) {
			t.Error("not ValidList", n)
		}
	}
}

func TestPower(t *testing.T) {
	powers := []int{1, 2, 4, 8, 16, 32, 64, 128, 256}
	for n := range 600 {
		if pic.Power(make([]int, n)) != slices.Contains(powers, n) {
			t.Error("Power of the length", n)
		}
	}
	if !pic.Power(filled(256, top)) || !pic.Power(filled(256, -top)) || !pic.Power([]int{top}) {
		t.Error("no Power of numbers at their limit")
	}
	for _, l := range wrongLists() {
		if pic.Power(l) {
			t.Error("Power of no valid list", len(l))
		}
	}
}

func TestAt(t *testing.T) {
	p := picture(3, 2, 10, 20, 30, 40, 50, 60)
	for y := range 2 {
		for x := range 3 {
			if n, e := pic.At(p, x, y); n != 10*(1+x+3*y) || e != api.OK {
				t.Error("At", x, y, n, e)
			}
		}
	}
	for _, c := range [][2]int{{-1, 0}, {0, -1}, {3, 0}, {0, 2}, {2, 2}, {3, 1}, {-1, 1}, {5, 0}, {0, 5}, {-3, 1}, {3, -1}, {math.MinInt, 0}, {0, math.MinInt}, {math.MaxInt, 0}, {0, math.MaxInt}, {math.MaxInt, math.MaxInt}} {
		if n, e := pic.At(p, c[0], c[1]); n != 0 || e != api.ErrRange {
			t.Error("At", c, n, e)
		}
	}
	for _, q := range wrongPictures() {
		for _, at := range []int{0, -1, 1000} {
			if n, e := pic.At(q, at, at); n != 0 || e != api.ErrInvalid {
				t.Error("At of no picture", q.Wide, q.High, n, e)
			}
		}
	}
}

func TestSize(t *testing.T) {
	for _, c := range []struct {
		l    []int
		size int
	}{{[]int{0}, 0}, {[]int{-7}, 7}, {[]int{7}, 7}, {[]int{3, -4, 0, 5, -5}, 17}, {[]int{1, -1}, 2}, {filled(256, -top), 256 * top}, {filled(256, top), 256 * top}} {
		if n, e := pic.Size(c.l); n != c.size || e != api.OK {
			t.Error("Size", c.size, n, e)
		}
	}
	for _, l := range wrongLists() {
		if n, e := pic.Size(l); n != 0 || e != api.ErrInvalid {
			t.Error("Size of no list", len(l), n, e)
		}
	}
}

func TestSupport(t *testing.T) {
	for _, c := range []struct{ l, support []int }{
		{[]int{0}, nil}, {[]int{0, 0, 0}, nil}, {[]int{-1}, []int{0}}, {[]int{5}, []int{0}},
		{[]int{0, 5, 0, -1}, []int{1, 3}}, {[]int{top, 0, -top}, []int{0, 2}}, {[]int{1, 2, 3}, []int{0, 1, 2}},
		{append(make([]int, 255), 1), []int{255}},
	} {
		if l, e := pic.Support(c.l); !slices.Equal(l, c.support) || e != api.OK {
			t.Error("Support", c.l, l, e)
		}
	}
	for _, l := range wrongLists() {
		if s, e := pic.Support(l); len(s) != 0 || e != api.ErrInvalid {
			t.Error("Support of no list", len(l), s, e)
		}
	}
}

func TestLargest(t *testing.T) {
	for _, c := range []struct {
		l       []int
		k       int
		largest []int
	}{
		{[]int{3, -5, 5, 1}, 0, nil},
		{[]int{3, -5, 5, 1}, 1, []int{1}},
		{[]int{3, -5, 5, 1}, 2, []int{1, 2}},
		{[]int{3, -5, 5, 1}, 3, []int{0, 1, 2}},
		{[]int{3, -5, 5, 1}, 4, []int{0, 1, 2, 3}},
		{[]int{1, 2, 3, 4}, 2, []int{2, 3}},
		{[]int{1, -9, 3, 4}, 2, []int{1, 3}},
		{[]int{3, -3, 3}, 1, []int{0}},
		{[]int{3, -3, 3}, 2, []int{0, 1}},
		{[]int{-3, 3}, 1, []int{0}},
		{[]int{2, 7, -2, 2, -7, 2}, 4, []int{0, 1, 2, 4}},
		{[]int{0, 0, 0}, 2, []int{0, 1}},
		{[]int{-top, top}, 1, []int{0}},
		{[]int{8}, 0, nil},
		{[]int{8}, 1, []int{0}},
	} {
		if l, e := pic.Largest(c.l, c.k); !slices.Equal(l, c.largest) || e != api.OK {
			t.Error("Largest", c.l, c.k, l, e)
		}
	}
	for _, k := range []int{-1, 4, 5, 256, math.MinInt, math.MaxInt} {
		if l, e := pic.Largest([]int{1, 2, 3}, k); len(l) != 0 || e != api.ErrRange {
			t.Error("Largest out of range", k, l, e)
		}
	}
	for _, l := range wrongLists() {
		for _, k := range []int{0, 1, -1, 1000000} {
			if s, e := pic.Largest(l, k); len(s) != 0 || e != api.ErrInvalid {
				t.Error("Largest of no list", len(l), k, s, e)
			}
		}
	}
}

// Many equal numbers show a sort that does not keep their order.
func TestLargestOfManyEqualNumbers(t *testing.T) {
	l := make([]int, 256)
	for i := range l {
		l[i] = 1 - 2*(i%2)
	}
	for k := range 257 {
		largest, e := pic.Largest(l, k)
		if e != api.OK || len(largest) != k {
			t.Fatal("Largest", k, largest, e)
		}
		for i, n := range largest {
			if n != i {
				t.Fatal("Largest of equal numbers", k, largest)
			}
		}
	}
}

// P1.5, against all sets of indexes; of the sets as great the first one is asked for.
func TestLargestAgainstAllSets(t *testing.T) {
	var s numbers
	for range 300 {
		l := s.list(1+s.below(8), 4)
		for k := range len(l) + 1 {
			if largest, e := pic.Largest(l, k); e != api.OK || !slices.Equal(largest, greatestSet(l, k)) {
				t.Fatal("Largest", l, k, largest, e)
			}
		}
	}
}

func greatestSet(l []int, k int) []int {
	var best []int
	most := -1
	for set := range 1 << len(l) {
		var chosen []int
		sum := 0
		for i, n := range l {
			if set>>i&1 == 1 {
				chosen = append(chosen, i)
				sum += size(n)
			}
		}
		if len(chosen) == k && (sum > most || sum == most && slices.Compare(chosen, best) < 0) {
			best, most = chosen, sum
		}
	}
	return best
}

func TestSteps(t *testing.T) {
	for _, c := range []struct {
		p     api.Picture
		steps int
	}{
		{picture(1, 1, 0), 0},
		{picture(1, 1, -top), 0},
		{picture(2, 1, 3, -4), 7},
		{picture(1, 2, 3, -4), 7},
		{picture(3, 1, 1, 5, 2), 7},
		{picture(1, 3, 1, 5, 2), 7},
		{picture(2, 2, 0, 1, 10, 100), 1 + 90 + 10 + 99},
		{picture(3, 2, 1, 2, 3, 4, -5, 6), 1 + 1 + 9 + 11 + 3 + 7 + 3},
		{picture(2, 3, 5, 5, 5, 5, 5, 5), 0},
		{picture(2, 1, -top, top), 2 * top},
	} {
		if n, e := pic.Steps(c.p); n != c.steps || e != api.OK {
			t.Error("Steps", c.p, n, e)
		}
	}
	board := picture(16, 16, make([]int, 256)...)
	for i := range board.Pix {
		board.Pix[i] = top * (1 - 2*((i+i/16)%2))
	}
	if n, e := pic.Steps(board); n != 480*2*top || e != api.OK {
		t.Error("Steps of the greatest picture", n, e)
	}
	for _, p := range wrongPictures() {
		if n, e := pic.Steps(p); n != 0 || e != api.ErrInvalid {
			t.Error("Steps of no picture", p.Wide, p.High, n, e)
		}
	}
}
