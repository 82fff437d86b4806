package camera_test

import (
	"fmt"
	"slices"
	"strconv"
	"testing"

	"lightsieve/api"
	"lightsieve/camera"
	"lightsieve/sparse"
	"lightsieve/stream"
)

// pictures are changed in up to so many pixels each time.
func (s *numbers) pictures(pixels, count, most int) [][]int {
	x := s.list(pixels, -50, 50)
	all := [][]int{x}
	for len(all) < count {
		x = slices.Clone(x)
		for range s.below(most + 1) {
			x[s.below(pixels)] = s.from(-1000, 1000)
		}
		all = append(all, x)
	}
	return all
}

// sends puts the frames of a stream in, line by line.
func sends(t *testing.T, x *camera.Camera, frames []api.Frame) {
	t.Helper()
	for i, f := range frames {
		line := "read " + listOf(f.Values)
		if f.Key {
			line = "key " + listOf(f.Values)
		} else if len(f.Values) == 0 {
			line = "lost"
		}
		says(t, x, line, "frames "+strconv.Itoa(i+1))
	}
}

// P10.6 and P7: what is sure is told as it was.
func TestSurePicturesAreTold(t *testing.T) {
	s := numbers(6)
	sent := map[int]int{}
	for range 300 {
		m := s.mask(s.from(1, 6), s.from(1, 10))
		if s.below(3) == 0 {
			m = s.mask(6, s.from(4, 8))
		}
		sure, e := sparse.Sure(m)
		if e != api.OK {
			t.Fatal("Sure:", e)
		}
		trust := s.from(0, sure)
		p := s.pictures(len(m[0]), s.from(1, 12), trust)
		frames, e := stream.Encode(m, p, s.from(1, 6))
		if e != api.OK {
			t.Fatal("Encode:", e)
		}
		x := done(t, rowsOf(m)...)
		does(t, x, "trust "+strconv.Itoa(trust))
		sends(t, x, frames)
		pictures, told := x.Pictures()
		if fmt.Sprint(pictures) != fmt.Sprint(p) || slices.Contains(told, false) {
			t.Fatal("the pictures", p, "of", m, "with the trust", trust, "are told as", pictures, told)
		}
		for i, picture := range p {
			says(t, x, "told "+strconv.Itoa(i), listOf(picture))
		}
		checkLost(t, m, frames, p, trust)
		sent[trust]++
	}
	if len(sent) < 4 || sent[1] < 20 || sent[2] < 20 {
		t.Error("streams by their trust:", sent)
	}
}

// checkLost loses a frame that is no key: from there on all is missing until the next key, and then told as it was.
func checkLost(t *testing.T, m api.Mask, frames []api.Frame, p [][]int, trust int) {
	t.Helper()
	at := slices.IndexFunc(frames, func(f api.Frame) bool { return !f.Key })
	if at < 0 {
		return
	}
	lossy := slices.Clone(frames)
	lossy[at].Values = nil
	x := done(t, rowsOf(m)...)
	does(t, x, "trust "+strconv.Itoa(trust))
	sends(t, x, lossy)
	missing := false
	for i, f := range lossy {
		missing = !f.Key && (missing || i == at)
		want := listOf(p[i])
		if missing {
			want = "missing"
		}
		says(t, x, "told "+strconv.Itoa(i), want)
	}
}

// A whole stream of MaxFrames, with the trust of a mask in which each pixel is seen by itself.
func TestLongStream(t *testing.T) {
	s := numbers(60)
	m := make(api.Mask, 6)
	for i := range m {
		m[i] = make([]int, 6)
		m[i][i] = 1 - 2*(i%2)
	}
	p := s.pictures(6, api.MaxFrames, 6)
	frames, e := stream.Encode(m, p, 60)
	if e != api.OK {
		t.Fatal("Encode:", e)
	}
	x := done(t, rowsOf(m)...)
	// A trust above the number of pixels is the number of pixels, which is sure here.
	does(t, x, "trust 10")
	sends(t, x, frames)
	for i, picture := range p {
		says(t, x, "told "+strconv.Itoa(i), listOf(picture))
	}
	refuses(t, x, "lost", api.ErrLimit)
}
