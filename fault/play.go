package fault

import (
	"slices"

	"lightsieve/api"
)

// Best returns the index of the shown picture that leaves the fewest faults in the worst case.
func Best(m api.Mask, t []api.Test, shown [][]int) (int, api.Errno) {
	if !ValidTests(m, t) {
		return 0, api.ErrInvalid
	}
	if !mayShow(m, shown...) {
		return 0, api.ErrRange
	}
	left := explaining(m, t)
	if len(left) == 0 || len(shown) == 0 {
		return 0, api.ErrNone
	}
	i, _ := best(left, shown...)
	return i, api.OK
}

// Play returns the tests of a mask with a hidden fault, as Best tells what to show, until no picture leaves fewer faults.
func Play(m api.Mask, f api.Fault, shown [][]int) ([]api.Test, api.Errno) {
	if !Valid(m, f) {
		return nil, api.ErrInvalid
	}
	if !mayShow(m, shown...) {
		return nil, api.ErrRange
	}
	hidden := faulty(m, f)
	left := explaining(m, nil)
	var tests []api.Test
	for len(tests) < api.MaxTests {
		i, most := best(left, shown...)
		if most == len(left) {
			break
		}
		test := api.Test{Shown: slices.Clone(shown[i]), Read: reading(hidden, shown[i])}
		tests = append(tests, test)
		left = slices.DeleteFunc(left, func(suspect api.Mask) bool { return !explains(suspect, []api.Test{test}) })
	}
	return tests, api.OK
}

// best returns also how many masks the picture leaves at most; without pictures all are left.
func best(left []api.Mask, shown ...[]int) (at, most int) {
	most = len(left)
	for i, x := range shown {
		if n := alike(left, x); n < most {
			at, most = i, n
		}
	}
	return at, most
}

// alike is the greatest number of masks that read the same of a picture.
func alike(masks []api.Mask, x []int) int {
	counts, most := map[string]int{}, 0
	for _, text := range readings(masks, x) {
		counts[text]++
		most = max(most, counts[text])
	}
	return most
}
