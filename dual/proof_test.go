package dual_test

import (
	"slices"
	"testing"

	"lightsieve/api"
	"lightsieve/dual"
)

func proof(x, z []api.Ratio) api.Least {
	return api.Least{Picture: x, Proof: z}
}

func TestProves(t *testing.T) {
	one, beyond := ratio(1, 1), ratio(401, 400)
	apart := api.Mask{{1, 0}, {0, 1}, {0, 1}}
	same := full(6, 1, 1)
	for _, c := range []struct {
		m    api.Mask
		y    []int
		x, z []api.Ratio
		want bool
	}{
		{two(), []int{1, 1}, wholes(0, 1, 0), wholes(1, 0), true}, {two(), []int{1, 1}, wholes(0, 1, 0), wholes(0, 1), true}, {two(), []int{1, 1}, wholes(0, 1, 0), filledRatios(2, ratio(1, 2)), true}, {two(), []int{1, 1}, wholes(0, 1, 0), []api.Ratio{ratio(1, 3), ratio(2, 3)}, true}, {two(), []int{1, -1}, wholes(1, 0, -1), wholes(1, -1), true}, {two(), []int{-3, -3}, wholes(0, -3, 0), wholes(-1, 0), true},
		// A picture that is none of the reading, or that is not least.
		{two(), []int{1, 1}, wholes(1, 0, 0), wholes(1, 0), false}, {two(), []int{1, 1}, wholes(0, 0, 1), wholes(1, 0), false}, {two(), []int{1, 1}, wholes(1, 0, 1), wholes(1, 0), false}, {two(), []int{1, 1}, wholes(1, 0, 1), wholes(1, 1), false}, {two(), []int{1, 1}, wholes(0, -1, 0), wholes(1, 0), false},
		// The sum with the reading is less than the norm, or greater.
		{two(), []int{1, 1}, wholes(0, 1, 0), wholes(0, 0), false}, {two(), []int{1, 1}, wholes(0, 1, 0), wholes(-1, 0), false}, {two(), []int{1, 1}, wholes(0, 1, 0), []api.Ratio{ratio(1, 2), ratio(199, 400)}, false}, {two(), []int{1, 1}, wholes(0, 1, 0), []api.Ratio{ratio(1, 2), ratio(201, 400)}, false}, {two(), []int{1, -1}, wholes(1, 0, -1), wholes(1, 0), false},
		// A pixel sees more than 1, or less than -1: the first one, the last one, by as little as there is.
		{api.Mask{{1, 1}, {0, 1}}, []int{0, 0}, wholes(0, 0), []api.Ratio{one, ratio(1, 400)}, false}, {api.Mask{{1, 1}, {0, 1}}, []int{0, 0}, wholes(0, 0), []api.Ratio{beyond, ratio(-1, 400)}, false}, {api.Mask{{1, 1}, {0, 1}}, []int{0, 0}, wholes(0, 0), []api.Ratio{one, ratio(-1, 400)}, true}, {api.Mask{{1, 1}, {0, 1}}, []int{0, 0}, wholes(0, 0), []api.Ratio{one, ratio(-2, 1)}, true}, {api.Mask{{1, 1}, {0, 1}}, []int{0, 0}, wholes(0, 0), []api.Ratio{ratio(-401, 400), one}, false}, {api.Mask{{1, 1}, {0, 1}}, []int{0, 0}, wholes(0, 0), wholes(1, -3), false}, {api.Mask{{1, -1}, {0, 1}}, []int{0, 0}, wholes(0, 0), wholes(1, -1), false},
		{apart, []int{5, 0, 0}, wholes(5, 0), []api.Ratio{one, ratio(399, 400), ratio(1, 400)}, true}, {apart, []int{5, 0, 0}, wholes(5, 0), []api.Ratio{one, ratio(399, 400), ratio(1, 399)}, false}, {apart, []int{5, 0, 0}, wholes(5, 0), []api.Ratio{one, ratio(-399, 400), ratio(-1, 400)}, true}, {apart, []int{5, 0, 0}, wholes(5, 0), []api.Ratio{one, ratio(-399, 400), ratio(-1, 399)}, false}, {apart, []int{5, 0, 0}, wholes(5, 0), []api.Ratio{one, ratio(399, 400), ratio(-10000000000, 1)}, false}, {apart, []int{5, 0, 0}, wholes(5, 0), []api.Ratio{ratio(399, 400), one, ratio(0, 1)}, false},
		// Great numbers that cancel each other.
		{twice(), []int{7, 7}, wholes(7, 0), wholes(10000000000, -9999999999), true}, {twice(), []int{7, 7}, wholes(7, 0), wholes(10000000000, -9999999998), false}, {twice(), []int{top, top}, wholes(0, top), wholes(-9999999999, 10000000000), true}, {twice(), []int{-top, -top}, wholes(0, -top), wholes(9999999999, -10000000000), true},
		{same, filled(6, top), wholes(top), []api.Ratio{ratio(9999999999, 400), ratio(-9999999999, 400), ratio(9999999998, 399), ratio(-9999999998, 399), ratio(396, 397), ratio(1, 397)}, true}, {same, filled(6, top), wholes(top), []api.Ratio{ratio(10000000000, 399), ratio(-9999999601, 399), ratio(10000000000, 397), ratio(-10000000000, 397), ratio(10000000000, 391), ratio(-10000000000, 391)}, true}, {same, filled(6, top), wholes(top), []api.Ratio{ratio(10000000000, 399), ratio(-9999999602, 399), ratio(10000000000, 397), ratio(-10000000000, 397), ratio(1, 391), ratio(0, 1)}, false},
		{same, filled(6, -top), wholes(-top), []api.Ratio{ratio(-1, 389), ratio(-388, 389), ratio(10000000000, 397), ratio(-10000000000, 397), ratio(9999999999, 383), ratio(-9999999999, 383)}, true},
		// The proof of zeros, and others of the reading of zeros.
		{two(), []int{0, 0}, wholes(0, 0, 0), wholes(0, 0), true}, {two(), []int{0, 0}, wholes(0, 0, 0), wholes(1, -1), true}, {two(), []int{0, 0}, wholes(0, 0, 0), wholes(1, 1), false}, {two(), []int{0, 0}, wholes(1, -1, 1), wholes(0, 0), false}, {full(2, 1, 0), []int{0, 0}, wholes(0), wholes(10000000000, -10000000000), true}, {full(2, 1, 0), []int{0, 0}, wholes(5), wholes(0, 0), false},
		// A mixture of corners.
		{line(), []int{3}, []api.Ratio{ratio(3, 2), ratio(-3, 4), ratio(0, 1), ratio(3, 4)}, wholes(1), true}, {line(), []int{3}, []api.Ratio{ratio(3, 2), ratio(3, 4), ratio(0, 1), ratio(9, 4)}, wholes(1), false}, {full(1, 4, 1), []int{2}, []api.Ratio{ratio(1, 397), ratio(396, 397), ratio(1, 400), ratio(399, 400)}, wholes(1), true}, {full(1, 4, -1), []int{-2}, []api.Ratio{ratio(1, 397), ratio(396, 397), ratio(1, 400), ratio(399, 400)}, wholes(-1), true},
		// A norm that is no valid fraction.
		{api.Mask{{1, -1}}, []int{0}, wholes(10000000000, 10000000000), wholes(0), false},
		// The picture or the proof is too short, or too long.
		{two(), []int{1, 1}, nil, wholes(1, 0), false}, {two(), []int{1, 1}, wholes(0, 1), wholes(1, 0), false}, {two(), []int{1, 1}, wholes(0, 1, 0, 0), wholes(1, 0), false}, {two(), []int{1, 1}, wholes(0, 1, 0), nil, false}, {two(), []int{1, 1}, wholes(0, 1, 0), wholes(1), false}, {two(), []int{1, 1}, wholes(0, 1, 0), wholes(1, 0, 0), false}, {two(), []int{0, 0}, wholes(0, 0, 0), nil, false}, {two(), []int{0, 0}, nil, wholes(0, 0), false}, {two(), nil, wholes(0, 1, 0), wholes(1, 0), false}, {two(), []int{1}, wholes(0, 1, 0), wholes(1, 0), false}, {two(), []int{1, 1, 0}, wholes(0, 1, 0), wholes(1, 0), false},
		// A reading is beyond its limit.
		{two(), []int{top, top}, wholes(0, top, 0), wholes(1, 0), true}, {two(), []int{top + 1, top + 1}, wholes(0, top+1, 0), wholes(1, 0), false}, {two(), []int{-top - 1, -top - 1}, wholes(0, -top-1, 0), wholes(-1, 0), false},
	} {
		if is := dual.Proves(c.m, c.y, proof(c.x, c.z)); is != c.want {
			t.Error("Proves", c.m, c.y, c.x, c.z, is)
		}
	}
}

func TestProvesOfWrongArguments(t *testing.T) {
	for _, wrong := range append(wrongRatios(), ratio(2, 2), ratio(0, 0)) {
		if dual.Proves(two(), []int{1, 1}, proof([]api.Ratio{wrong, ratio(1, 1), ratio(0, 1)}, wholes(1, 0))) || dual.Proves(two(), []int{1, 1}, proof([]api.Ratio{ratio(0, 1), ratio(1, 1), wrong}, wholes(1, 0))) {
			t.Error("Proves with a picture of", wrong)
		}
		if dual.Proves(two(), []int{1, 1}, proof(wholes(0, 1, 0), []api.Ratio{wrong, ratio(0, 1)})) || dual.Proves(two(), []int{1, 1}, proof(wholes(0, 1, 0), []api.Ratio{ratio(1, 1), wrong})) || dual.Proves(full(1, 1, 0), []int{0}, proof(wholes(0), []api.Ratio{wrong})) {
			t.Error("Proves with a proof of", wrong)
		}
	}
	for _, m := range wrongMasks() {
		for _, l := range []api.Least{{}, proof(wholes(0), filledRatios(len(m), ratio(0, 1))), proof(wholes(0, 0), filledRatios(len(m), ratio(0, 1)))} {
			if dual.Proves(m, filled(len(m), 0), l) || dual.Proves(m, nil, l) {
				t.Error("Proves", m, l)
			}
		}
	}
}

// Proofs are told from other lists just by their definition.
func TestProvesOfAnyList(t *testing.T) {
	var s numbers
	values := []api.Ratio{ratio(0, 1), ratio(1, 1), ratio(-1, 1), ratio(1, 2), ratio(-1, 2), ratio(1, 3), ratio(2, 3), ratio(3, 2), ratio(-2, 1)}
	right := 0
	for _, m := range append(smallMasks(), largeMasks()...) {
		for _, y := range [][]int{filled(len(m), 0), readOf(m, s.dots(len(m[0]), 1, 2)), readOf(m, s.dots(len(m[0]), 2, 2))} {
			if len(m[0]) > 6 && s.below(3) > 0 {
				continue
			}
			l, _ := dual.Least(m, y)
			for range 8 {
				z := make([]api.Ratio, len(m))
				for i := range z {
					z[i] = values[s.below(len(values))]
				}
				is := proves(m, y, proof(l.Picture, z))
				if dual.Proves(m, y, proof(l.Picture, z)) != is {
					t.Fatal("Proves", m, y, l.Picture, z, !is)
				}
				if is && !slices.Equal(z, l.Proof) {
					right++
				}
			}
		}
	}
	if right < 1000 {
		t.Error("too few proofs:", right)
	}
}
