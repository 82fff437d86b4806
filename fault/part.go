package fault

import (
	"slices"

	"lightsieve/api"
	"lightsieve/mask"
)

// Part reports whether a mask reads one of the shown pictures differently with two faults.
func Part(m api.Mask, f, g api.Fault, shown [][]int) (bool, api.Errno) {
	if !Valid(m, f) || !Valid(m, g) {
		return false, api.ErrInvalid
	}
	if !mayShow(m, shown...) {
		return false, api.ErrRange
	}
	firsts := classes([]api.Mask{faulty(m, f), faulty(m, g)}, shown...)
	return firsts[0] != firsts[1], api.OK
}

// Classes returns for each of All the index of the first one from which no shown picture parts it.
func Classes(m api.Mask, shown [][]int) ([]int, api.Errno) {
	if e := showing(m, shown...); e != api.OK {
		return nil, e
	}
	return classes(explaining(m, nil), shown...), api.OK
}

// Fewest returns the indexes of as few shown pictures as part what all of them part.
func Fewest(m api.Mask, shown [][]int) ([]int, api.Errno) {
	if e := showing(m, shown...); e != api.OK {
		return nil, e
	}
	masks := explaining(m, nil)
	views := make([][]string, len(shown))
	for i, x := range shown {
		views[i] = readings(masks, x)
	}
	return fewest(views, classes(masks, shown...)), api.OK
}

// Enough reports whether shown pictures part all of All, two by two.
func Enough(m api.Mask, shown [][]int) (bool, api.Errno) {
	firsts, e := Classes(m, shown)
	if e != api.OK {
		return false, e
	}
	for i, first := range firsts {
		if first != i {
			return false, api.OK
		}
	}
	return true, api.OK
}

// Units returns the pictures with a single 1, one for each pixel.
func Units(m api.Mask) ([][]int, api.Errno) {
	if !mask.Valid(m) {
		return nil, api.ErrInvalid
	}
	units := make([][]int, len(m[0]))
	for j := range units {
		units[j] = make([]int, len(m[0]))
		units[j][j] = 1
	}
	return units, api.OK
}

// showing asks for a mask, and for pictures that may be shown to it.
func showing(m api.Mask, shown ...[]int) api.Errno {
	if !mask.Valid(m) {
		return api.ErrInvalid
	}
	if !mayShow(m, shown...) {
		return api.ErrRange
	}
	return api.OK
}

// classes returns for each mask the index of the first one that reads the same of all pictures.
func classes(masks []api.Mask, shown ...[]int) []int {
	firsts := make([]int, len(masks))
	for _, x := range shown {
		firsts = finer(firsts, readings(masks, x))
	}
	return firsts
}

// finer returns classes parted by one more picture, of which each mask reads a text.
func finer(firsts []int, texts []string) []int {
	type view struct {
		first int
		text  string
	}
	seen := map[view]int{}
	parted := make([]int, len(firsts))
	for i, text := range texts {
		v := view{firsts[i], text}
		if _, is := seen[v]; !is {
			seen[v] = i
		}
		parted[i] = seen[v]
	}
	return parted
}

// fewest returns the first of the smallest sets of views that part all that the whole set does.
func fewest(views [][]string, whole []int) []int {
	least := make([]int, len(views))
	for i := range least {
		least[i] = i
	}
	var choose func(chosen, firsts []int)
	// The sets come in the order of their lists, so that the first one of a size is the first list.
	choose = func(chosen, firsts []int) {
		if len(chosen) >= len(least) {
			return
		}
		if slices.Equal(firsts, whole) {
			least = slices.Clone(chosen)
			return
		}
		for i := behind(chosen); i < len(views); i++ {
			choose(append(chosen, i), finer(firsts, views[i]))
		}
	}
	choose(nil, make([]int, len(whole)))
	return least
}

// readings are the texts of what masks read of a picture.
func readings(masks []api.Mask, x []int) []string {
	texts := make([]string, len(masks))
	for i, m := range masks {
		texts[i] = words(reading(m, x))
	}
	return texts
}

// behind is the index after the last one of a set.
func behind(chosen []int) int {
	if len(chosen) == 0 {
		return 0
	}
	return chosen[len(chosen)-1] + 1
}
