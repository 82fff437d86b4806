package pic

import "lightsieve/api"

// A motion takes the place x, y of a picture to its new place.
type motion func(x, y int) (int, int)

// The first motions are turns, each at its number of quarters.
const (
	quarterTurns = 4
	mirror       = quarterTurns
)

// Turned turns a picture by any number of quarters; one quarter takes x, y to High - 1 - y, x.
func Turned(p api.Picture, quarters int) (api.Picture, api.Errno) {
	if !Valid(p) {
		return api.Picture{}, api.ErrInvalid
	}
	// The remainder of a number below 0 is not above 0, so that it is taken twice.
	q := (quarters%quarterTurns + quarterTurns) % quarterTurns
	wide, high := p.Wide, p.High
	if q%2 == 1 {
		wide, high = high, wide
	}
	return moved(p, wide, high, motions(p)[q]), api.OK
}

// Mirrored turns the order of the pixels in each row.
func Mirrored(p api.Picture) (api.Picture, api.Errno) {
	if !Valid(p) {
		return api.Picture{}, api.ErrInvalid
	}
	return moved(p, p.Wide, p.High, motions(p)[mirror]), api.OK
}

// Halved returns the picture of half the sides, each pixel the mean of four, rounded down.
func Halved(p api.Picture) (api.Picture, api.Errno) {
	if !Valid(p) {
		return api.Picture{}, api.ErrInvalid
	}
	if p.Wide%2 != 0 || p.High%2 != 0 {
		return api.Picture{}, api.ErrSize
	}
	half := api.Picture{Wide: p.Wide / 2, High: p.High / 2}
	for y := range half.High {
		for x := range half.Wide {
			at := 2*x + p.Wide*2*y
			under := at + p.Wide
			sum := p.Pix[at] + p.Pix[at+1] + p.Pix[under] + p.Pix[under+1]
			half.Pix = append(half.Pix, halfDown(halfDown(sum)))
		}
	}
	return half, api.OK
}

func motions(p api.Picture) [quarterTurns + 1]motion {
	right, bottom := p.Wide-1, p.High-1
	return [quarterTurns + 1]motion{
		func(x, y int) (int, int) { return x, y },
		func(x, y int) (int, int) { return bottom - y, x },
		func(x, y int) (int, int) { return right - x, bottom - y },
		func(x, y int) (int, int) { return y, right - x },
		mirror: func(x, y int) (int, int) { return right - x, y },
	}
}

func moved(p api.Picture, wide, high int, move motion) api.Picture {
	pix := make([]int, len(p.Pix))
	for i, n := range p.Pix {
		x, y := move(i%p.Wide, i/p.Wide)
		pix[x+wide*y] = n
	}
	return api.Picture{Wide: wide, High: high, Pix: pix}
}
