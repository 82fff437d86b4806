package dual_test

import (
	"math/big"
	"slices"

	"lightsieve/api"
)

// tableau has for each basic variable an equation; behind its numbers stands the variable's value, which is not below 0.
type tableau struct {
	lines     [][]*big.Rat
	basic     []int
	variables int
}

// greatest is the greatest sum of gains that variables have, none of which is below 0, for the given sums of each row:
// by the simplex method with the rule of the least index. It is ErrNone if there are no such variables, and ErrState if there is no greatest sum.
func greatest(rows [][]int, sums []*big.Rat, gains []int) (*big.Rat, api.Errno) {
	t := newTableau(rows, sums)
	losses := make([]int, t.variables+len(rows))
	for i := range rows {
		losses[t.variables+i] = -1
	}
	t.climb(losses, len(losses))
	if t.worth(losses).Sign() < 0 {
		return nil, api.ErrNone
	}
	t.leaveSlack()
	if !t.climb(append(slices.Clone(gains), filled(len(rows), 0)...), t.variables) {
		return nil, api.ErrState
	}
	return t.worth(append(slices.Clone(gains), filled(len(rows), 0)...)), api.OK
}

// newTableau begins with a slack for each row.
func newTableau(rows [][]int, sums []*big.Rat) *tableau {
	t := &tableau{variables: len(rows[0])}
	for i, row := range rows {
		sign := 1
		if sums[i].Sign() < 0 {
			sign = -1
		}
		var l []*big.Rat
		for _, n := range row {
			l = append(l, bigWhole(sign*n))
		}
		for k := range rows {
			slack := 0
			if k == i {
				slack = 1
			}
			l = append(l, bigWhole(slack))
		}
		t.lines = append(t.lines, append(l, new(big.Rat).Abs(sums[i])))
		t.basic = append(t.basic, t.variables+i)
	}
	return t
}

func (t *tableau) value(line int) *big.Rat {
	l := t.lines[line]
	return l[len(l)-1]
}

func (t *tableau) worth(gains []int) *big.Rat {
	sum := new(big.Rat)
	for i, variable := range t.basic {
		sum.Add(sum, new(big.Rat).Mul(t.value(i), bigWhole(gains[variable])))
	}
	return sum
}

// climb lets the first variables become basic until no one adds to the worth, and tells whether there is an end.
func (t *tableau) climb(gains []int, first int) bool {
	for {
		entering := -1
		for j := 0; j < first && entering < 0; j++ {
			gain := bigWhole(gains[j])
			for i, variable := range t.basic {
				if gains[variable] != 0 {
					gain.Sub(gain, new(big.Rat).Mul(t.lines[i][j], bigWhole(gains[variable])))
				}
			}
			if gain.Sign() > 0 {
				entering = j
			}
		}
		if entering < 0 {
			return true
		}
		leaving := t.leaving(entering)
		if leaving < 0 {
			return false
		}
		t.pivot(leaving, entering)
	}
}

func (t *tableau) leaving(entering int) int {
	at, least := -1, new(big.Rat)
	for i, l := range t.lines {
		if l[entering].Sign() <= 0 {
			continue
		}
		quotient := new(big.Rat).Quo(t.value(i), l[entering])
		order := quotient.Cmp(least)
		if at < 0 || order < 0 || order == 0 && t.basic[i] < t.basic[at] {
			at, least = i, quotient
		}
	}
	return at
}

func (t *tableau) pivot(line, variable int) {
	own := t.lines[line]
	part := new(big.Rat).Inv(own[variable])
	for k := range own {
		own[k] = new(big.Rat).Mul(own[k], part)
	}
	for i, l := range t.lines {
		by := l[variable]
		if i == line || by.Sign() == 0 {
			continue
		}
		for k := range l {
			if own[k].Sign() != 0 {
				l[k] = new(big.Rat).Sub(l[k], new(big.Rat).Mul(by, own[k]))
			}
		}
	}
	t.basic[line] = variable
}

// leaveSlack takes out the slacks that are still basic, which have the value 0, or else their lines, which say nothing.
func (t *tableau) leaveSlack() {
	for i := 0; i < len(t.lines); {
		if t.basic[i] < t.variables {
			i++
			continue
		}
		at := slices.IndexFunc(t.lines[i][:t.variables], func(r *big.Rat) bool { return r.Sign() != 0 })
		if at < 0 {
			t.lines, t.basic = slices.Delete(t.lines, i, i+1), slices.Delete(t.basic, i, i+1)
			continue
		}
		t.pivot(i, at)
	}
}

func bigWholes(l []int) []*big.Rat {
	var all []*big.Rat
	for _, n := range l {
		all = append(all, bigWhole(n))
	}
	return all
}

// bothSigns has for each pixel a variable for its value above 0, and then one for each value below.
func bothSigns(m api.Mask) [][]int {
	var rows [][]int
	for _, row := range m {
		rows = append(rows, slices.Concat(row, times(-1, row)))
	}
	return rows
}

// leastNorm is the least norm of the pictures that make a reading.
func leastNorm(m api.Mask, y []int) (*big.Rat, api.Errno) {
	worth, e := greatest(bothSigns(m), bigWholes(y), filled(2*len(m[0]), -1))
	if e != api.OK {
		return nil, api.ErrState
	}
	return worth.Neg(worth), api.OK
}

// greatestWithNorm is the greatest value of a pixel times a sign in pictures that make a reading with a norm that is the least.
func greatestWithNorm(m api.Mask, y []int, norm *big.Rat, pixel, sign int) *big.Rat {
	n := len(m[0])
	gains := filled(2*n, 0)
	gains[pixel], gains[n+pixel] = sign, -sign
	worth, _ := greatest(append(bothSigns(m), filled(2*n, 1)), append(bigWholes(y), norm), gains)
	return worth.Mul(worth, bigWhole(sign))
}

// brightest is the greatest value of a pixel in light pictures.
func brightest(m api.Mask, y []int, pixel int) (*big.Rat, api.Errno) {
	gains := filled(len(m[0]), 0)
	gains[pixel] = 1
	return greatest(m, bigWholes(y), gains)
}
