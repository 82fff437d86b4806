package mask_test

import (
	"math"
	"math/big"
	"slices"
	"testing"

	"lightsieve/api"
	"lightsieve/mask"
)

func TestRolled(t *testing.T) {
	for _, c := range []struct {
		row  []int
		n    int
		want api.Mask
	}{
		{[]int{1, -1, 0}, 1, api.Mask{{1, -1, 0}}},
		{[]int{1, -1, 0}, 2, api.Mask{{1, -1, 0}, {0, 1, -1}}},
		{[]int{1, -1, 0}, 6, api.Mask{{1, -1, 0}, {0, 1, -1}, {-1, 0, 1}, {1, -1, 0}, {0, 1, -1}, {-1, 0, 1}}},
		{[]int{1}, 6, full(6, 1, 1)},
		{[]int{0, 1}, 5, api.Mask{{0, 1}, {1, 0}, {0, 1}, {1, 0}, {0, 1}}},
		{[]int{1, 0, 0, 0, 0, 0, 0, 0, 0, -1}, 3, api.Mask{{1, 0, 0, 0, 0, 0, 0, 0, 0, -1}, {-1, 1, 0, 0, 0, 0, 0, 0, 0, 0}, {0, -1, 1, 0, 0, 0, 0, 0, 0, 0}}},
	} {
		m, e := mask.Rolled(c.row, c.n)
		checkMask(t, "Rolled", m, e, c.want)
	}
	var s numbers
	for length := 1; length <= 10; length++ {
		for n := 1; n <= 6; n++ {
			row := s.list(length, 1)
			m, e := mask.Rolled(row, n)
			want := full(n, length, 0)
			for k := range n {
				for j := range length {
					want[k][(j+k)%length] = row[j]
				}
			}
			checkMask(t, "Rolled", m, e, want)
		}
	}
}

func TestErrorsOfRolled(t *testing.T) {
	for _, n := range []int{0, -1, 7, 100, math.MinInt, math.MaxInt} {
		for _, row := range [][]int{{1}, {0, 1, -1}, filled(10, 1)} {
			m, e := mask.Rolled(row, n)
			checkErrno(t, "Rolled", m, e, api.ErrRange)
		}
	}
	for _, row := range [][]int{nil, {}, {2}, {-2}, {1, 0, 2}, {-2, 1}, filled(11, 1), filled(1000, 0), {math.MinInt}, {math.MaxInt}} {
		for _, n := range []int{1, 6, 0, 7, -1} {
			m, e := mask.Rolled(row, n)
			checkErrno(t, "Rolled", m, e, api.ErrInvalid)
		}
	}
}

func TestWalsh(t *testing.T) {
	for _, c := range []struct {
		pixels int
		rows   []int
		want   api.Mask
	}{
		{1, []int{0}, api.Mask{{1}}},
		{2, []int{0, 1}, api.Mask{{1, 1}, {1, -1}}},
		{2, []int{1}, api.Mask{{1, -1}}},
		{4, []int{0, 1, 2, 3}, api.Mask{{1, 1, 1, 1}, {1, -1, 1, -1}, {1, 1, -1, -1}, {1, -1, -1, 1}}},
		{8, []int{3, 7}, api.Mask{{1, -1, -1, 1, 1, -1, -1, 1}, {1, -1, -1, 1, -1, 1, 1, -1}}},
		{8, []int{0, 1, 2, 4, 6, 7}, api.Mask{
			{1, 1, 1, 1, 1, 1, 1, 1}, {1, -1, 1, -1, 1, -1, 1, -1}, {1, 1, -1, -1, 1, 1, -1, -1},
			{1, 1, 1, 1, -1, -1, -1, -1}, {1, 1, -1, -1, -1, -1, 1, 1}, {1, -1, -1, 1, -1, 1, 1, -1},
		}},
	} {
		m, e := mask.Walsh(c.pixels, c.rows)
		checkMask(t, "Walsh", m, e, c.want)
	}
}

// P2.5, and the sign of each number by counting the common ones.
func TestWalshOfAllRows(t *testing.T) {
	for _, pixels := range []int{1, 2, 4, 8} {
		for set := range 1 << pixels {
			var rows []int
			for i := range pixels {
				if set>>i&1 == 1 {
					rows = append(rows, i)
				}
			}
			m, e := mask.Walsh(pixels, rows)
			if len(rows) == 0 || len(rows) > 6 {
				checkErrno(t, "Walsh", m, e, api.ErrRange)
				continue
			}
			want := full(len(rows), pixels, 1)
			for k, i := range rows {
				for j := range pixels {
					for common := i & j; common > 0; common /= 2 {
						if common%2 == 1 {
							want[k][j] *= -1
						}
					}
				}
			}
			checkMask(t, "Walsh", m, e, want)
			for k := range m {
				for l := range k {
					if dot(m[k], m[l]) != 0 {
						t.Error("Walsh with rows that are not square", pixels, rows, k, l)
					}
				}
			}
		}
	}
}

func TestErrorsOfWalsh(t *testing.T) {
	for _, c := range []struct {
		pixels int
		rows   []int
	}{
		{0, []int{0}}, {0, nil}, {-1, []int{0}}, {3, []int{0}}, {5, []int{0}}, {6, []int{0, 1}}, {7, []int{0}}, {9, []int{0}}, {10, []int{0}}, {16, []int{0}}, {-2, []int{0}}, {-8, []int{0}}, {math.MinInt, []int{0}}, {math.MaxInt, []int{0}},
		{1, nil}, {8, nil}, {8, []int{}}, {8, []int{0, 1, 2, 3, 4, 5, 6}}, {8, []int{0, 1, 2, 3, 4, 5, 6, 7}},
		{1, []int{1}}, {2, []int{2}}, {4, []int{4}}, {8, []int{8}}, {8, []int{-1}}, {8, []int{-1, 0}}, {8, []int{0, 8}}, {8, []int{math.MinInt}}, {8, []int{math.MaxInt}},
		{8, []int{1, 0}}, {8, []int{0, 0}}, {8, []int{3, 5, 5}}, {8, []int{3, 5, 4}}, {8, []int{0, 0, 0, 0, 0, 0, 0}}, {1, []int{0, 0}},
	} {
		m, e := mask.Walsh(c.pixels, c.rows)
		checkErrno(t, "Walsh", m, e, api.ErrRange)
	}
}

// seededOf follows the seed with whole numbers of any size.
func seededOf(seed, rows, pixels int) api.Mask {
	s, factor, modulus := big.NewInt(int64(seed)), big.NewInt(48271), big.NewInt(2147483647)
	m := full(rows, pixels, 0)
	for i := range m {
		for j := range m[i] {
			s.Mod(s.Mul(s, factor), modulus)
			m[i][j] = int(new(big.Int).Mod(s, big.NewInt(3)).Int64()) - 1
		}
	}
	return m
}

func TestSeeded(t *testing.T) {
	// From the seed 1: 48271, 182605794, 1291394886, 1914720637, 2078669041, 407355683, 1105902161, 854716505, 564586691, 1596680831.
	m, e := mask.Seeded(1, 2, 5)
	checkMask(t, "Seeded", m, e, api.Mask{{0, -1, -1, 0, 0}, {1, 1, 1, 1, 1}})
	m, e = mask.Seeded(1, 1, 10)
	checkMask(t, "Seeded", m, e, api.Mask{{0, -1, -1, 0, 0, 1, 1, 1, 1, 1}})
	for _, seed := range []int{1, 2, 3, 7, 48271, 123456789, 1 << 30, 2147483645, 2147483646} {
		for rows := 1; rows <= 6; rows++ {
			for pixels := 1; pixels <= 10; pixels++ {
				m, e := mask.Seeded(seed, rows, pixels)
				checkMask(t, "Seeded", m, e, seededOf(seed, rows, pixels))
			}
		}
	}
}

// P2.5.
func TestSeededBeginsAlike(t *testing.T) {
	for seed := 1; seed <= 50; seed++ {
		for pixels := 1; pixels <= 10; pixels++ {
			most, _ := mask.Seeded(seed, 6, pixels)
			for rows := 1; rows <= 6; rows++ {
				m, e := mask.Seeded(seed, rows, pixels)
				if e != api.OK || len(m) != rows || !same(m, most[:rows]) {
					t.Fatal("Seeded", seed, rows, pixels, m, most)
				}
			}
		}
	}
}

func TestErrorsOfSeeded(t *testing.T) {
	for _, wrong := range []int{0, -1, 2147483647, 2147483648, 2147483649, math.MinInt, math.MaxInt, 1 << 62} {
		m, e := mask.Seeded(wrong, 2, 3)
		checkErrno(t, "Seeded", m, e, api.ErrRange)
		m, e = mask.Seeded(wrong, 0, 0)
		checkErrno(t, "Seeded", m, e, api.ErrRange)
	}
	for _, rows := range []int{0, -1, 7, 100, math.MinInt, math.MaxInt} {
		m, e := mask.Seeded(1, rows, 3)
		checkErrno(t, "Seeded", m, e, api.ErrRange)
	}
	for _, pixels := range []int{0, -1, 11, 100, math.MinInt, math.MaxInt} {
		m, e := mask.Seeded(1, 2, pixels)
		checkErrno(t, "Seeded", m, e, api.ErrRange)
	}
}

// What builds a mask builds a valid one.
func TestBuiltMasksAreValid(t *testing.T) {
	rolled, _ := mask.Rolled(filled(10, -1), 6)
	walsh, _ := mask.Walsh(8, []int{0, 1, 2, 3, 4, 5})
	seeded, _ := mask.Seeded(9, 6, 10)
	for i, m := range []api.Mask{rolled, walsh, seeded} {
		if !mask.Valid(m) || slices.ContainsFunc(m, func(row []int) bool { return len(row) != len(m[0]) }) {
			t.Error("built", i, m)
		}
	}
}
