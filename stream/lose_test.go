package stream_test

import (
	"slices"
	"testing"

	"lightsieve/api"
	"lightsieve/stream"
)

// without is what Lose must return.
func without(f []api.Frame, i int) []api.Frame {
	f = slices.Clone(f)
	f[i].Values = nil
	return f
}

func TestLose(t *testing.T) {
	f := []api.Frame{key(1, 2, 3), read(1, 1), read(), key(), key(4, 5, 6)}
	for i, want := range [][]api.Frame{
		{key(), read(1, 1), read(), key(), key(4, 5, 6)},
		{key(1, 2, 3), read(), read(), key(), key(4, 5, 6)},
		{key(1, 2, 3), read(1, 1), read(), key(), key(4, 5, 6)},
		{key(1, 2, 3), read(1, 1), read(), key(), key(4, 5, 6)},
		{key(1, 2, 3), read(1, 1), read(), key(), key()},
	} {
		if l, e := stream.Lose(three(), f, i); e != api.OK || !sameFrames(l, want) {
			t.Error("Lose", i, l, e)
		}
	}
	for _, s := range samples() {
		for i := range s.f {
			l, e := stream.Lose(s.m, s.f, i)
			if e != api.OK || !sameFrames(l, without(s.f, i)) || !stream.Valid(s.m, l) {
				t.Error("Lose", s.f, i, l, e)
			}
			if again, e := stream.Lose(s.m, l, i); e != api.OK || !sameFrames(again, l) {
				t.Error("Lose what is lost", l, i, again, e)
			}
		}
	}
}

func TestHarm(t *testing.T) {
	m := three()
	for _, c := range []struct {
		f     []api.Frame
		trust int
		harms []int
		worst int
	}{
		{[]api.Frame{key(1, 2, 3)}, 0, []int{1}, 0},
		{[]api.Frame{key()}, 0, []int{0}, 0},
		{[]api.Frame{key(0, 0, 0), read(5, 5), read(0, 2)}, 1, []int{3, 2, 1}, 0},
		{[]api.Frame{key(0, 0, 0), read(), read(0, 2)}, 1, []int{1, 0, 0}, 0},
		{[]api.Frame{key(), read(5, 5), read(0, 2)}, 1, []int{0, 0, 0}, 0},
		// a missing frame that was not lost does no harm, and a lost one neither
		{[]api.Frame{key(0, 0, 0), read(3, 2), read(0, 0)}, 1, []int{1, 0, 0}, 0},
		{[]api.Frame{key(0, 0, 0), read(0, 0), read(3, 2), read(0, 0)}, 1, []int{2, 1, 0, 0}, 0},
		// until the next key that was not lost
		{[]api.Frame{key(0, 0, 0), read(1, 0), key(), read(1, 0), key(1, 1, 1), read(1, 0), read(1, 0)}, 1, []int{2, 1, 0, 0, 3, 2, 1}, 4},
		{[]api.Frame{key(0, 0, 0), read(1, 0), read(1, 0), key(), read(1, 0), key(1, 1, 1), read(1, 0)}, 1, []int{3, 2, 1, 0, 0, 2, 1}, 0},
		{[]api.Frame{key(), read(1, 0), key(0, 0, 0), read(1, 0)}, 1, []int{0, 0, 2, 1}, 2},
		{[]api.Frame{key(), key(), key(0, 0, 0), key(0, 0, 0)}, 1, []int{0, 0, 1, 1}, 2},
		// the first of several
		{[]api.Frame{key(0, 0, 0), read(1, 0), key(0, 0, 0), read(1, 0)}, 1, []int{2, 1, 2, 1}, 0},
		{[]api.Frame{key(0, 0, 0), key(1, 1, 1), read(1, 0), key(0, 0, 0), read(1, 0), key(0, 0, 0)}, 1, []int{1, 2, 1, 2, 1, 1}, 1},
		// with the other trust they are missing anyhow
		{[]api.Frame{key(0, 0, 0), read(5, 5), key(1, 1, 1), read(0, 0), read(0, 0)}, 0, []int{1, 0, 3, 2, 1}, 2},
		{[]api.Frame{key(0, 0, 0), read(5, 5), read(0, 0), read(0, 0), key(1, 1, 1), read(0, 0), read(0, 0)}, 1, []int{4, 3, 2, 1, 3, 2, 1}, 0},
		{[]api.Frame{key(0, 0, 0), read(5, 5), read(0, 0), read(0, 0), key(1, 1, 1), read(0, 0), read(0, 0)}, 2, []int{1, 0, 0, 0, 3, 2, 1}, 4},
		// the change leads out of the range
		{[]api.Frame{key(1000, 0, 0), read(1, 0), read(-1, 0)}, 1, []int{1, 0, 0}, 0},
	} {
		for i, want := range c.harms {
			if n, e := stream.Harm(m, c.f, i, c.trust); e != api.OK || n != want {
				t.Error("Harm", c.f, i, c.trust, n, e, "not", want)
			}
		}
		if i, e := stream.Worst(m, c.f, c.trust); e != api.OK || i != c.worst {
			t.Error("Worst", c.f, c.trust, i, e, "not", c.worst)
		}
	}
}

// missingOf is what is missing by the words of the chapter.
func missingOf(s sample) []int {
	_, told := decoded(s.f, byWhole(s.m, s.trust))
	return untold(told)
}

// P8.3 and P8.4, and Harm and Worst by the words of the chapter.
func TestLosses(t *testing.T) {
	later := 0
	for _, s := range samples() {
		before := missingOf(s)
		worst, most := 0, -1
		for i := range s.f {
			l := s
			l.f = without(s.f, i)
			after := missingOf(l)
			n := len(after) - len(before)
			if harm, e := stream.Harm(s.m, s.f, i, s.trust); e != api.OK || harm != n || n < 0 {
				t.Error("Harm", s, i, harm, e, "not", n)
			}
			if n > most {
				worst, most = i, n
			}
			checkLoss(t, s, l, i)
		}
		if i, e := stream.Worst(s.m, s.f, s.trust); e != api.OK || i != worst {
			t.Error("Worst", s, i, e, "not", worst)
		}
		if worst > 0 {
			later++
		}
	}
	if later < 10 {
		t.Error("the worst frame is nearly always the first one:", later)
	}
}

// checkLoss holds the pictures before a loss, and from the next key on, against those without it.
func checkLoss(t *testing.T, s, lossy sample, i int) {
	t.Helper()
	p, told, _ := stream.Decode(s.m, s.f, s.trust)
	q, is, e := stream.Decode(lossy.m, lossy.f, lossy.trust)
	if e != api.OK || len(q) != len(p) || is[i] {
		t.Fatal("Decode", lossy, q, is, e)
	}
	next := i + 1
	for next < len(s.f) && (!s.f[next].Key || len(s.f[next].Values) == 0) {
		next++
	}
	for k := range p {
		if k < i || k >= next {
			if !slices.Equal(p[k], q[k]) || told[k] != is[k] {
				t.Error("the loss of", i, "changes", k, s, p[k], q[k])
			}
		} else if is[k] || len(q[k]) > 0 {
			t.Error("told after the loss of", i, k, s, q[k])
		}
	}
}

// P8.3: a key that was not lost is told, and what follows a missing frame is missing until then.
func TestUntilTheNextKey(t *testing.T) {
	for _, s := range samples() {
		p, told, _ := stream.Decode(s.m, s.f, s.trust)
		for i, frame := range s.f {
			if frame.Key {
				if told[i] != (len(frame.Values) > 0) || !slices.Equal(p[i], frame.Values) {
					t.Error("key", s.f, i, p[i])
				}
			} else if told[i] && !told[i-1] {
				t.Error("told after a missing frame", s.f, i, p[i])
			}
		}
	}
}

// P8.4: with keys alone nothing is missing, and each loss is one picture.
func TestKeysAlone(t *testing.T) {
	for _, s := range samples() {
		s.f = encoded(s.m, s.p, 1)
		if p, _, e := stream.Decode(s.m, s.f, s.trust); e != api.OK || !sameLists(p, s.p) {
			t.Error("Decode", s, p, e)
		}
		if l, e := stream.Missing(s.m, s.f, s.trust); e != api.OK || len(l) != 0 {
			t.Error("Missing", s, l, e)
		}
		for i := range s.f {
			if n, e := stream.Harm(s.m, s.f, i, s.trust); e != api.OK || n != 1 {
				t.Error("Harm", s, i, n, e)
			}
		}
		if i, e := stream.Worst(s.m, s.f, s.trust); e != api.OK || i != 0 {
			t.Error("Worst", s, i, e)
		}
	}
}
