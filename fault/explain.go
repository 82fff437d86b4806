package fault

import (
	"slices"

	"lightsieve/api"
	"lightsieve/mask"
)

// ValidTests reports whether tests are at most MaxTests, each with a shown picture and a number for each row.
func ValidTests(m api.Mask, t []api.Test) bool {
	return mask.Valid(m) && len(t) <= api.MaxTests && all(t, func(test api.Test) bool {
		return mask.Shown(m, test.Shown) && len(test.Read) == len(m)
	})
}

// Explains reports whether a mask with a fault reads what the tests tell.
func Explains(m api.Mask, f api.Fault, t []api.Test) (bool, api.Errno) {
	if !Valid(m, f) || !ValidTests(m, t) {
		return false, api.ErrInvalid
	}
	return explains(faulty(m, f), t), api.OK
}

// Which returns those of All that explain tests.
func Which(m api.Mask, t []api.Test) ([]api.Fault, api.Errno) {
	if !ValidTests(m, t) {
		return nil, api.ErrInvalid
	}
	var which []api.Fault
	for f, changed := range suspects(m) {
		if explains(changed, t) {
			which = append(which, f)
		}
	}
	return which, api.OK
}

// First returns the first of All that explains tests.
func First(m api.Mask, t []api.Test) (api.Fault, api.Errno) {
	which, e := Which(m, t)
	if e != api.OK {
		return api.Fault{}, e
	}
	if len(which) == 0 {
		return api.Fault{}, api.ErrNone
	}
	return which[0], api.OK
}

// explains is asked of a faulty mask.
func explains(m api.Mask, t []api.Test) bool {
	return all(t, func(test api.Test) bool { return slices.Equal(reading(m, test.Shown), test.Read) })
}

// explaining are the faulty masks of those that Which returns.
func explaining(m api.Mask, t []api.Test) []api.Mask {
	var masks []api.Mask
	for _, changed := range suspects(m) {
		if explains(changed, t) {
			masks = append(masks, changed)
		}
	}
	return masks
}
