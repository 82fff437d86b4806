package mask

import (
	"slices"

	"lightsieve/api"
)

// Chosen returns the mask with just some columns, which are named in ascending order.
func Chosen(m api.Mask, pixels []int) (api.Mask, api.Errno) {
	if e := listed(m, pixels); e != api.OK {
		return nil, e
	}
	if len(pixels) == 0 {
		return nil, api.ErrRange
	}
	return chosen(m, pixels), api.OK
}

// Stacked returns the rows of a, and then those of b.
func Stacked(a, b api.Mask) (api.Mask, api.Errno) {
	if !Valid(a) || !Valid(b) {
		return nil, api.ErrInvalid
	}
	if len(a[0]) != len(b[0]) {
		return nil, api.ErrSize
	}
	if len(a)+len(b) > api.MaxRows {
		return nil, api.ErrLimit
	}
	return append(copied(a), copied(b)...), api.OK
}

// Without returns the mask without a row.
func Without(m api.Mask, row int) (api.Mask, api.Errno) {
	if !Valid(m) {
		return nil, api.ErrInvalid
	}
	if row < 0 || row >= len(m) {
		return nil, api.ErrName
	}
	if len(m) == 1 {
		return nil, api.ErrNone
	}
	return slices.Delete(copied(m), row, row+1), api.OK
}

// Permuted returns the mask whose column k is the column order[k].
func Permuted(m api.Mask, order []int) (api.Mask, api.Errno) {
	if !Valid(m) {
		return nil, api.ErrInvalid
	}
	if len(order) != len(m[0]) {
		return nil, api.ErrSize
	}
	if !allThere(m, order) {
		return nil, api.ErrName
	}
	if len(named(order)) != len(order) {
		return nil, api.ErrRange
	}
	return chosen(m, order), api.OK
}

// Signed returns the mask with the signs of some columns turned, which are named in ascending order.
func Signed(m api.Mask, pixels []int) (api.Mask, api.Errno) {
	if e := listed(m, pixels); e != api.OK {
		return nil, e
	}
	signed, turned := copied(m), named(pixels)
	for _, row := range signed {
		for j, n := range row {
			if turned[j] {
				row[j] = -n
			}
		}
	}
	return signed, api.OK
}

// listed asks whether pixels are there ahead of whether they are in strictly ascending order.
func listed(m api.Mask, pixels []int) api.Errno {
	if !Valid(m) {
		return api.ErrInvalid
	}
	if !allThere(m, pixels) {
		return api.ErrName
	}
	if !ascending(pixels) {
		return api.ErrRange
	}
	return api.OK
}

func allThere(m api.Mask, pixels []int) bool {
	return all(pixels, func(j int) bool { return there(m, j) })
}

func named(pixels []int) map[int]bool {
	names := map[int]bool{}
	for _, j := range pixels {
		names[j] = true
	}
	return names
}

// ascending is asked of numbers that are not below 0.
func ascending(l []int) bool {
	last := -1
	return all(l, func(n int) bool {
		above := n > last
		last = n
		return above
	})
}

func chosen(m api.Mask, pixels []int) api.Mask {
	part := make(api.Mask, len(m))
	for i, row := range m {
		for _, j := range pixels {
			part[i] = append(part[i], row[j])
		}
	}
	return part
}

func copied(m api.Mask) api.Mask {
	rows := make(api.Mask, len(m))
	for i, row := range m {
		rows[i] = slices.Clone(row)
	}
	return rows
}
