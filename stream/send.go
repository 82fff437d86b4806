package stream

import (
	"slices"

	"lightsieve/api"
)

// Change returns the change of the picture b from a.
func Change(m api.Mask, a, b []int) ([]int, api.Errno) {
	if !ValidPictures(m, [][]int{a, b}) {
		return nil, api.ErrInvalid
	}
	return less(b, a), api.OK
}

// Sizes returns for each picture but the first one how many pixels are other ones than before.
func Sizes(m api.Mask, p [][]int) ([]int, api.Errno) {
	if !ValidPictures(m, p) {
		return nil, api.ErrInvalid
	}
	sizes := make([]int, len(p)-1)
	for i := range sizes {
		for j, n := range p[i] {
			if p[i+1][j] != n {
				sizes[i]++
			}
		}
	}
	return sizes, api.OK
}

// Sent reports whether pictures are told, and right, when they were encoded and decoded.
func Sent(m api.Mask, p [][]int, every, trust int) (bool, api.Errno) {
	frames, e := Encode(m, p, every)
	if e != api.OK {
		return false, e
	}
	if e := trustOf(m, trust); e != api.OK {
		return false, e
	}
	return right(p, frames, trusting(m, trust)), api.OK
}

// Sparsest returns the greatest distance of keys with which pictures are sent; with a lesser one they may not be.
func Sparsest(m api.Mask, p [][]int, trust int) (int, api.Errno) {
	if !ValidPictures(m, p) {
		return 0, api.ErrInvalid
	}
	if e := trustOf(m, trust); e != api.OK {
		return 0, e
	}
	only := trusting(m, trust)
	for every := len(p); every > 1; every-- {
		frames, _ := Encode(m, p, every)
		if right(p, frames, only) {
			return every, api.OK
		}
	}
	return 1, api.OK
}

// right reports whether frames are decoded to the pictures of which they were made.
func right(p [][]int, f []api.Frame, only onlyChange) bool {
	for i, picture := range pictures(f, only) {
		if !slices.Equal(picture, p[i]) {
			return false
		}
	}
	return true
}
