package mask

import (
	"math/bits"
	"slices"

	"lightsieve/api"
)

// A seed is below the modulus, and not 0, so that it never becomes 0.
const (
	seedFactor  = 48271
	seedModulus = 1<<31 - 1
)

// Rolled returns the mask whose row k is a row rolled by k to the right.
func Rolled(row []int, n int) (api.Mask, api.Errno) {
	if !validRow(row) {
		return nil, api.ErrInvalid
	}
	if n < 1 || n > api.MaxRows {
		return nil, api.ErrRange
	}
	m := make(api.Mask, n)
	for k := range m {
		first := len(row) - k%len(row)
		m[k] = slices.Concat(row[first:], row[:first])
	}
	return m, api.OK
}

// Walsh returns the mask with some rows of the Walsh transform of a length.
func Walsh(pixels int, rows []int) (api.Mask, api.Errno) {
	if !walshLong(pixels) || !walshRows(pixels, rows) {
		return nil, api.ErrRange
	}
	m := make(api.Mask, len(rows))
	for k, i := range rows {
		for j := range pixels {
			// 1 for an even number of common ones, and -1 for an odd one.
			m[k] = append(m[k], 1-2*(bits.OnesCount(uint(i&j))%2))
		}
	}
	return m, api.OK
}

// Seeded returns the mask whose numbers follow from a seed, row by row.
func Seeded(seed, rows, pixels int) (api.Mask, api.Errno) {
	if seed < 1 || seed >= seedModulus {
		return nil, api.ErrRange
	}
	if rows < 1 || rows > api.MaxRows || pixels < 1 || pixels > api.MaxPixels {
		return nil, api.ErrRange
	}
	m := make(api.Mask, rows)
	s := int64(seed)
	for i := range m {
		for range pixels {
			s = s * seedFactor % seedModulus
			m[i] = append(m[i], int(s%3)-1)
		}
	}
	return m, api.OK
}

func walshLong(pixels int) bool {
	return pixels == 1 || pixels == 2 || pixels == 4 || pixels == 8
}

func walshRows(pixels int, rows []int) bool {
	if len(rows) < 1 || len(rows) > api.MaxRows {
		return false
	}
	return all(rows, between(0, pixels-1)) && ascending(rows)
}
