package cond

import (
	"slices"

	"lightsieve/api"
	"lightsieve/mask"
)

// No more rows are compared at once.
const maxChoice = 20

// Better returns the index of the first row with which a mask has the greatest order.
func Better(m api.Mask, rows [][]int) (int, api.Errno) {
	if e := choice(m, rows); e != api.OK {
		return 0, e
	}
	var orders []int
	for _, row := range rows {
		longer, _ := mask.Stacked(m, api.Mask{row})
		order, _ := Order(longer)
		orders = append(orders, order)
	}
	return slices.Index(orders, slices.Max(orders)), api.OK
}

// Rows returns the rows, ascending, without each of which the order would be the same.
func Rows(m api.Mask) ([]int, api.Errno) {
	order, e := Order(m)
	if e != api.OK {
		return nil, e
	}
	var rows []int
	for i := range m {
		// Without its only row a mask is none, and has no order.
		shorter, _ := mask.Without(m, i)
		if k, e := Order(shorter); e == api.OK && k == order {
			rows = append(rows, i)
		}
	}
	return rows, api.OK
}

// choice asks for a mask and rows, of which each may be put on it.
func choice(m api.Mask, rows [][]int) api.Errno {
	wrong := func(row []int) bool { return !mask.Valid(api.Mask{row}) }
	if !mask.Valid(m) || slices.ContainsFunc(rows, wrong) {
		return api.ErrInvalid
	}
	if len(rows) < 1 || len(rows) > maxChoice {
		return api.ErrRange
	}
	other := func(row []int) bool { return len(row) != len(m[0]) }
	if slices.ContainsFunc(rows, other) {
		return api.ErrSize
	}
	if len(m) == api.MaxRows {
		return api.ErrLimit
	}
	return api.OK
}
