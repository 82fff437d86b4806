package stream

import (
	"iter"
	"slices"

	"lightsieve/api"
	"lightsieve/sparse"
)

// shot is a frame of which something is asked.
type shot struct{ api.Frame }

// onlyChange tells the change that makes a reading, if there is just one.
type onlyChange func(reading []int) (change []int, is bool)

// Decode returns the pictures of frames, with an empty list for a missing one, and which ones are told.
func Decode(m api.Mask, f []api.Frame, trust int) (p [][]int, told []bool, e api.Errno) {
	if e := trusted(m, f, trust); e != api.OK {
		return nil, nil, e
	}
	for _, picture := range pictures(f, trusting(m, trust)) {
		p = append(p, picture)
		told = append(told, len(picture) > 0)
	}
	return p, told, api.OK
}

// Missing returns the indexes of the frames that are not told.
func Missing(m api.Mask, f []api.Frame, trust int) ([]int, api.Errno) {
	if e := trusted(m, f, trust); e != api.OK {
		return nil, e
	}
	return missing(f, trusting(m, trust)), api.OK
}

func missing(f []api.Frame, only onlyChange) []int {
	var list []int
	for i, picture := range pictures(f, only) {
		if len(picture) == 0 {
			list = append(list, i)
		}
	}
	return list
}

// pictures yields each frame's index and picture, which is empty if the frame is missing.
func pictures(f []api.Frame, only onlyChange) iter.Seq2[int, []int] {
	return func(yield func(int, []int) bool) {
		var before []int
		for i, frame := range f {
			before = shot{frame}.picture(before, only)
			// The next picture is made of this one, whatever is done with the list that is handed out.
			if !yield(i, slices.Clone(before)) {
				return
			}
		}
	}
}

// trusted looks at the frames, and then at the trust.
func trusted(m api.Mask, f []api.Frame, trust int) api.Errno {
	if !Valid(m, f) {
		return api.ErrInvalid
	}
	return trustOf(m, trust)
}

// trustOf is asked with a valid mask.
func trustOf(m api.Mask, trust int) api.Errno {
	if !between(0, len(m[0]))(trust) {
		return api.ErrRange
	}
	return api.OK
}

// trusting finds changes of at most so many pixels. It keeps what it found,
// since Sparsest and Worst decode the same readings again and again.
func trusting(m api.Mask, trust int) onlyChange {
	known := map[[api.MaxRows]int][][]int{}
	return func(reading []int) ([]int, bool) {
		var key [api.MaxRows]int
		copy(key[:], reading)
		changes, asked := known[key]
		if !asked {
			changes, _ = sparse.Whole(m, reading, trust)
			known[key] = changes
		}
		if len(changes) != 1 {
			return nil, false
		}
		return changes[0], true
	}
}

func (s shot) lost() bool {
	return len(s.Values) == 0
}

// valid is asked with a valid mask.
func (s shot) valid(m api.Mask) bool {
	if s.lost() {
		return true
	}
	if s.Key {
		return pictureOf(m)(s.Values)
	}
	return len(s.Values) == len(m) && all(s.Values, between(-api.MaxValue, api.MaxValue))
}

// picture is empty for a missing frame; so is the one before if that is missing.
func (s shot) picture(before []int, only onlyChange) []int {
	if s.Key || s.lost() {
		return s.Values
	}
	if len(before) == 0 {
		return nil
	}
	change, is := only(s.Values)
	if !is {
		return nil
	}
	after := slices.Clone(before)
	for j, n := range change {
		after[j] += n
	}
	if !all(after, between(-farthest, farthest)) {
		return nil
	}
	return after
}
