package camera_test

import (
	"fmt"
	"slices"
	"strconv"
	"strings"
	"testing"

	"lightsieve/api"
	"lightsieve/camera"
	"lightsieve/cond"
	"lightsieve/dual"
	"lightsieve/fault"
	"lightsieve/lin"
	"lightsieve/mask"
	"lightsieve/sparse"
)

func checkMask(t *testing.T, x *camera.Camera, want string) {
	t.Helper()
	if got := mask.Format(x.Mask()); got != want {
		t.Errorf("the mask is\n%swant\n%s", got, want)
	}
}

// The first row may have any number of pixels, also behind rows that were all cut out again.
func TestRowOfEachLength(t *testing.T) {
	for pixels := 1; pixels <= api.MaxPixels; pixels++ {
		row := strings.Repeat("+.-", 4)[:pixels]
		x := camera.New()
		says(t, x, "row "+row, "rows 1")
		checkMask(t, x, row+"\n")
		for other := 1; other <= api.MaxPixels; other++ {
			line := "row " + strings.Repeat("-", other)
			if other != pixels {
				refuses(t, x, line, api.ErrSize)
			}
			y := x.Copy()
			says(t, y, "cut 0", "rows 0")
			checkMask(t, y, "")
			says(t, y, line, "rows 1")
			checkMask(t, y, strings.Repeat("-", other)+"\n")
			says(t, y, line, "rows 2")
		}
	}
}

func TestRowsArePutInBehindTheOthers(t *testing.T) {
	x := camera.New()
	want := ""
	for i, row := range []string{"+.", "-+", "..", "+.", "--", ".+"} {
		says(t, x, "row "+row, "rows "+strconv.Itoa(i+1))
		want += row + "\n"
		checkMask(t, x, want)
	}
	refuses(t, x, "row ++", api.ErrLimit)
	says(t, x, "cut 5", "rows 5")
	says(t, x, "row ++", "rows 6")
	checkMask(t, x, "+.\n-+\n..\n+.\n--\n++\n")
}

func TestCut(t *testing.T) {
	x := camera.New()
	refuses(t, x, "cut 0", api.ErrName)
	does(t, x, "row +.", "row -+", "row ..")
	for _, line := range []string{"cut 3", "cut 4", "cut 999999"} {
		refuses(t, x, line, api.ErrName)
	}
	for at, want := range []string{"-+\n..\n", "+.\n..\n", "+.\n-+\n"} {
		y := x.Copy()
		says(t, y, "cut "+strconv.Itoa(at), "rows 2")
		checkMask(t, y, want)
		refuses(t, y, "cut 2", api.ErrName)
		says(t, y, "cut 1", "rows 1")
		says(t, y, "cut 0", "rows 0")
		refuses(t, y, "cut 0", api.ErrName)
	}
}

// P10.3: while there are frames or tests no row is put in or taken out; after clear it is.
func TestRowsStayWhileThereAreFramesOrTests(t *testing.T) {
	for _, lines := range [][]string{{"key 0,0"}, {"test 1,2 3,4"}, {"key 1,2", "lost", "read 1,1"}, {"key 0,0", "test 0,0 0,0"}} {
		x := done(t, "row +.", "row -+")
		does(t, x, lines...)
		for _, line := range []string{"row ++", "row +.", "row ..", "cut 0", "cut 1"} {
			refuses(t, x, line, api.ErrState)
		}
		says(t, x, "clear", "clear")
		if len(x.Frames()) > 0 || len(x.Tests()) > 0 {
			t.Error("after clear there are", x.Frames(), x.Tests())
		}
		checkMask(t, x, "+.\n-+\n")
		y := x.Copy()
		says(t, x, "row ++", "rows 3")
		says(t, y, "cut 0", "rows 1")
	}
}

func TestClear(t *testing.T) {
	x := camera.New()
	says(t, x, "clear", "clear")
	does(t, x, "row ++", "trust 2", "clear", "key 1,2", "read 0", "test 1,1 2", "test 1,1 0")
	says(t, x, "clear", "clear")
	if got := state(x); !strings.HasPrefix(got, "[[1 1]] [] [] 2 [] [] [{0 0 0} {1 0 0} {2 0 0} {2 0 1} {3 0 0} {3 0 1}]") {
		t.Error("after clear a camera has", got)
	}
	// What comes next is asked as if nothing had been before.
	refuses(t, x, "read 0", api.ErrInvalid)
	refuses(t, x, "told 0", api.ErrName)
	says(t, x, "key 3,4", "frames 1")
	says(t, x, "told 0", "3,4")
	says(t, x, "test 1,1 2", "tests 1")
	does(t, x, "clear")
	says(t, x, "clear", "clear")
}

func TestTrust(t *testing.T) {
	for _, x := range []*camera.Camera{camera.New(), done(t, "row +.", "key 0,0", "test 0,0 1")} {
		for trust := range 20 {
			line := "trust " + strconv.Itoa(trust)
			if trust > 10 {
				refuses(t, x, line, api.ErrRange)
				continue
			}
			says(t, x, line, line)
			if x.Trust() != trust {
				t.Error("the trust is", x.Trust(), "want", trust)
			}
		}
		refuses(t, x, "trust 999999", api.ErrRange)
		says(t, x, "trust 0", "trust 0")
	}
}

func TestSee(t *testing.T) {
	x := done(t, "row ++.", "row .-+")
	for line, want := range map[string]string{
		"see 5,2,9": "7,7", "see 0,0,0": "0,0", "see -1,-2,-3": "-3,-1",
		"see 1000000,1000000,-1000000": "2000000,-2000000", "see -1000000,0,0": "-1000000,0",
	} {
		says(t, x.Copy(), line, want)
	}
	for _, line := range []string{"see 1", "see 1,2", "see 1,2,3,4", "see 1,2,3,4,5,6,7,8,9,10,11", "see 9999999", "see 1000001,0"} {
		refuses(t, x, line, api.ErrSize)
	}
	for _, line := range []string{"see 1000001,0,0", "see 0,-1000001,0", "see 0,0,9999999", "see -9999999,0,0"} {
		refuses(t, x, line, api.ErrRange)
	}
	// Readings may have more digits than the numbers of lines.
	y := done(t, "row ++++++++++")
	says(t, y, "see "+listOf(slices.Repeat([]int{-1000000}, 10)), "-10000000")
}

func TestKnown(t *testing.T) {
	for rows, want := range map[string]string{"++.\n.++\n": "none", "...\n": "none", "+-\n": "none", "+..\n": "0", "+++\n+--\n": "0", "..+\n.-.\n": "1,2", "++.\n.++\n+..\n": "0,1,2", ".........-\n": "9"} {
		m, _, _ := mask.Parse(rows)
		says(t, done(t, rowsOf(m)...), "known", want)
	}
}

func TestSparsest(t *testing.T) {
	x := done(t, "row ++.", "row .++")
	for line, want := range map[string]string{"sparsest 1,1": "size 1", "sparsest 0,0": "size 0", "sparsest 1,2": "size 2", "sparsest 1000000,0": "size 1", "sparsest -1000000,1": "size 2"} {
		says(t, x.Copy(), line, want)
	}
	checkReadings(t, "sparsest")
}

func TestLeast(t *testing.T) {
	x := done(t, "row ++.", "row .++")
	for line, want := range map[string]string{"least 1,1": "norm 1/1", "least 0,0": "norm 0/1", "least 1,-1": "norm 2/1", "least 1000000,-1000000": "norm 2000000/1", "least -3,-2": "norm 3/1"} {
		says(t, x.Copy(), line, want)
	}
	says(t, done(t, "row ++.", "row +.+", "row .++"), "least 1,1,1", "norm 3/2")
	checkReadings(t, "least")
}

// checkReadings asks for readings of another length, beyond their range, and that no picture makes.
func checkReadings(t *testing.T, word string) {
	t.Helper()
	x := done(t, "row ++.", "row .++")
	for _, list := range []string{"1", "1,2,3", "9999999", "9999999,1,1", "1,2,3,4,5,6,7,8,9,10,11,12"} {
		refuses(t, x, word+" "+list, api.ErrSize)
	}
	for _, list := range []string{"1000001,0", "0,-1000001", "9999999,9999999", "-9999999,0"} {
		refuses(t, x, word+" "+list, api.ErrRange)
	}
	y := done(t, "row ++.", "row ++.")
	for _, list := range []string{"1,2", "0,1", "1000000,-1000000"} {
		refuses(t, y, word+" "+list, api.ErrState)
	}
	refuses(t, y, word+" 1000001,0", api.ErrRange)
	refuses(t, done(t, "row ..."), word+" 1", api.ErrState)
}

func TestOrder(t *testing.T) {
	for rows, want := range map[string]string{"++.\n.++\n": "order 1 sure 1", "+..\n.+.\n..+\n": "order 3 sure 3", "...\n": "order 0 sure 0", "+-\n": "order 0 sure 0", "+++.\n++-+\n+-+-\n": "order 0 sure 1"} {
		m, _, _ := mask.Parse(rows)
		says(t, done(t, rowsOf(m)...), "order", want)
	}
	// The order may be less than what is sure: the circuit 1 -1 -2 has one half of its size in one pixel.
	says(t, done(t, "row ++.", "row +-+"), "order", "order 0 sure 1")
}

func TestFrames(t *testing.T) {
	x := done(t, "row ++.", "row .++")
	// The first frame must be a key.
	for _, line := range []string{"read 5,5", "lost", "read 1,2,3"} {
		refuses(t, x, line, api.ErrInvalid)
	}
	wrongKeys := []string{"key 0", "key 0,0", "key 0,0,0,0", "key 1001,0,0", "key 0,-1001,0", "key 0,0,9999999", "key 1000000,0,0"}
	wrongReads := []string{"read 0", "read 0,0,0", "read 1000001,0", "read 0,-1000001", "read 9999999,9999999"}
	for _, line := range wrongKeys {
		refuses(t, x, line, api.ErrInvalid)
	}
	says(t, x, "key 1000,-1000,0", "frames 1")
	says(t, x, "read 1000000,-1000000", "frames 2")
	says(t, x, "lost", "frames 3")
	says(t, x, "read 0,0", "frames 4")
	says(t, x, "key 0,0,0", "frames 5")
	for _, line := range slices.Concat(wrongKeys, wrongReads) {
		refuses(t, x, line, api.ErrInvalid)
	}
	if got := fmt.Sprint(x.Frames()); got != "[{true [1000 -1000 0]} {false [1000000 -1000000]} {false []} {false [0 0]} {true [0 0 0]}]" {
		t.Error("the frames are", got)
	}
}

func TestFramesBehindTheLast(t *testing.T) {
	x := done(t, "row ++.", "row .++")
	for i := range api.MaxFrames {
		says(t, x, []string{"key 1,2,3", "read 0,1", "lost"}[i%3], "frames "+strconv.Itoa(i+1))
	}
	for _, line := range []string{"key 1,2,3", "key -1000,1000,0", "read 0,1", "read -1000000,1000000", "lost"} {
		refuses(t, x, line, api.ErrLimit)
	}
	for _, line := range []string{"key 1,2", "key 1001,0,0", "read 0", "read 0,1000001", "read 0,0,0"} {
		refuses(t, x, line, api.ErrInvalid)
	}
	refuses(t, x, "told 60", api.ErrName)
	says(t, x, "told 57", "1,2,3")
	says(t, x, "told 59", "missing")
	says(t, x, "clear", "clear")
	says(t, x, "key 0,0,0", "frames 1")
}

func TestTold(t *testing.T) {
	x := done(t, "row ++.", "row .++")
	refuses(t, x, "told 0", api.ErrName)
	refuses(t, camera.New(), "told 0", api.ErrName)
	does(t, x, "trust 1", "key 1,0,0", "read 5,5", "read 1,2", "read 0,0", "key -7,8,9", "read 0,0", "lost", "read 0,0", "key 1000,0,0", "read 1,0")
	// The reading 1 2 has no fit of one pixel, and the last picture would be beyond 1,000.
	for i, want := range []string{"1,0,0", "1,5,0", "missing", "missing", "-7,8,9", "-7,8,9", "missing", "missing", "1000,0,0", "missing"} {
		says(t, x, "told "+strconv.Itoa(i), want)
	}
	refuses(t, x, "told 10", api.ErrName)
	refuses(t, x, "told 999999", api.ErrName)
	// The trust of now counts, not that of the time when a frame came.
	does(t, x, "trust 0")
	says(t, x, "told 1", "missing")
	says(t, x, "told 5", "-7,8,9")
	// With a trust of two pixels the reading 5 5 has two fits, and 1 2 still has several.
	does(t, x, "trust 2")
	says(t, x, "told 1", "missing")
	checkTold(t, x)
}

func TestTests(t *testing.T) {
	x := done(t, "row ++.", "row .++")
	wrong := []string{"test 1 1", "test 1,2 1,2", "test 1,2,3,4 1,2", "test 1,2,3 1", "test 1,2,3 1,2,3", "test 1000001,0,0 1,1", "test 0,0,-9999999 1,1", "test 1,1 1,2,3"}
	for _, line := range wrong {
		refuses(t, x, line, api.ErrInvalid)
	}
	right := []string{"test 1,2,3 3,5", "test 1000000,-1000000,0 0,-9999999", "test 0,0,0 0,0", "test 0,0,0 9999999,1"}
	for i := range api.MaxTests {
		says(t, x, right[i%4], "tests "+strconv.Itoa(i+1))
	}
	for _, line := range right {
		refuses(t, x, line, api.ErrLimit)
	}
	for _, line := range wrong {
		refuses(t, x, line, api.ErrInvalid)
	}
	if got := fmt.Sprint(x.Tests()[:4]); got != "[{[1 2 3] [3 5]} {[1000000 -1000000 0] [0 -9999999]} {[0 0 0] [0 0]} {[0 0 0] [9999999 1]}]" {
		t.Error("the tests are", got)
	}
	says(t, x, "clear", "clear")
	says(t, x, right[0], "tests 1")
}

func TestFaults(t *testing.T) {
	x := done(t, "row +-")
	says(t, x, "faults", "faults 6")
	says(t, x.Copy(), "test 1,2 -1", "tests 1")
	for read, want := range map[int]int{-1: 1, 0: 1, -2: 1, 1: 1, -3: 1, 3: 1, 2: 0, 9999999: 0} {
		y := x.Copy()
		does(t, y, "test 1,2 "+strconv.Itoa(read))
		says(t, y, "faults", "faults "+strconv.Itoa(want))
		checkFaults(t, y)
	}
	// No fault explains two readings of one picture.
	does(t, x, "test 0,0 0")
	says(t, x, "faults", "faults 6")
	does(t, x, "test 1,1 0")
	says(t, x, "faults", "faults 2")
	does(t, x, "test 1,1 1")
	says(t, x, "faults", "faults 0")
	// A trust asks nothing of faults.
	does(t, x, "clear", "trust 10")
	says(t, x, "faults", "faults 6")
}

// What lines tell is what the packages tell of the mask, for masks of each size.
func TestLinesTellWhatThePackagesTell(t *testing.T) {
	s := numbers(10)
	for rows := 1; rows <= api.MaxRows; rows++ {
		for pixels := 1; pixels <= api.MaxPixels; pixels++ {
			m := s.mask(rows, pixels)
			x := done(t, rowsOf(m)...)
			checkMaskLines(t, x, m)
			for range 4 {
				checkReading(t, x, m, s.list(rows, -3, 3))
				shown := s.list(pixels, -9, 9)
				read, _ := mask.Read(m, shown)
				says(t, x, "see "+listOf(shown), listOf(read))
				checkReading(t, x, m, read)
			}
		}
	}
}

func checkMaskLines(t *testing.T, x *camera.Camera, m api.Mask) {
	t.Helper()
	checkMask(t, x, mask.Format(m))
	known, _ := lin.Known(m)
	order, _ := cond.Order(m)
	sure, _ := sparse.Sure(m)
	faults, _ := fault.All(m)
	said := "none"
	if len(known) > 0 {
		said = listOf(known)
	}
	says(t, x, "known", said)
	says(t, x, "order", fmt.Sprintf("order %d sure %d", order, sure))
	says(t, x, "faults", fmt.Sprintf("faults %d", len(faults)))
}

func checkReading(t *testing.T, x *camera.Camera, m api.Mask, y []int) {
	t.Helper()
	size, e := sparse.Size(m, y)
	norm, f := dual.Value(m, y)
	if e != f {
		t.Fatal("the errors of a reading differ", e, f)
	}
	if e != api.OK {
		refuses(t, x, "sparsest "+listOf(y), e)
		refuses(t, x, "least "+listOf(y), e)
		return
	}
	says(t, x, "sparsest "+listOf(y), fmt.Sprintf("size %d", size))
	says(t, x, "least "+listOf(y), fmt.Sprintf("norm %d/%d", norm.N, norm.D))
}
