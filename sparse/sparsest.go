package sparse

import "lightsieve/api"

// Sparsest returns the first of the sparsest fits.
func Sparsest(m api.Mask, y []int) (api.Fit, api.Errno) {
	found, e := sparsest(m, y)
	if e != api.OK {
		return api.Fit{}, e
	}
	return found[0], api.OK
}

// Size returns how many pixels the sparsest fits have.
func Size(m api.Mask, y []int) (int, api.Errno) {
	f, e := Sparsest(m, y)
	return len(f.Pixels), e
}

// Count returns how many sparsest fits there are.
func Count(m api.Mask, y []int) (int, api.Errno) {
	found, e := sparsest(m, y)
	return len(found), e
}

// Only returns the sparsest fit, if there is no other one.
func Only(m api.Mask, y []int) (api.Fit, api.Errno) {
	found, e := sparsest(m, y)
	if e != api.OK {
		return api.Fit{}, e
	}
	if len(found) > 1 {
		return api.Fit{}, api.ErrMany
	}
	return found[0], api.OK
}

// sparsest are all fits of the least size. A reading without any fit is impossible: of a picture that makes it, columns could be left out until the others are independent.
func sparsest(m api.Mask, y []int) ([]api.Fit, api.Errno) {
	q, e := ask(m, y)
	if e != api.OK {
		return nil, e
	}
	var found []api.Fit
	for f := range q.fits(api.MaxPixels, zero) {
		if len(found) > 0 && len(f.Pixels) > len(found[0].Pixels) {
			break
		}
		found = append(found, f)
	}
	if len(found) == 0 {
		return nil, api.ErrState
	}
	return found, api.OK
}
