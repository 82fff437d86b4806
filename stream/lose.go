package stream

import "lightsieve/api"

// Lose returns frames with one lost.
func Lose(m api.Mask, f []api.Frame, i int) ([]api.Frame, api.Errno) {
	if !Valid(m, f) {
		return nil, api.ErrInvalid
	}
	if e := named(f, i); e != api.OK {
		return nil, e
	}
	return without(f, i), api.OK
}

// Harm returns how many frames more are missing if one is lost.
func Harm(m api.Mask, f []api.Frame, i, trust int) (int, api.Errno) {
	if e := trusted(m, f, trust); e != api.OK {
		return 0, e
	}
	if e := named(f, i); e != api.OK {
		return 0, e
	}
	return harms(f, trusting(m, trust))(i), api.OK
}

// Worst returns the index of the frame whose loss does the most harm, of several the first.
func Worst(m api.Mask, f []api.Frame, trust int) (int, api.Errno) {
	if e := trusted(m, f, trust); e != api.OK {
		return 0, e
	}
	harm := harms(f, trusting(m, trust))
	// No loss makes a missing frame told, so that no harm is below 0.
	worst, most := 0, 0
	for i := range f {
		if more := harm(i); more > most {
			worst, most = i, more
		}
	}
	return worst, api.OK
}

func named(f []api.Frame, i int) api.Errno {
	if i < 0 || i >= len(f) {
		return api.ErrName
	}
	return api.OK
}

func without(f []api.Frame, i int) []api.Frame {
	frames := copied(f)
	frames[i].Values = nil
	return frames
}

// harms tells of each frame how many more are missing without it.
func harms(f []api.Frame, only onlyChange) func(i int) int {
	anyhow := len(missing(f, only))
	return func(i int) int { return len(missing(without(f, i), only)) - anyhow }
}
