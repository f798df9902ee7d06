package shape

import (
	"math"
	"testing"

	"quilt/api"
)

// wild are numbers far out: sums and products of them may wrap round.
func wild() []int {
	return []int{math.MinInt, math.MinInt + 1, math.MinInt / 2, -1 << 32, -1, 1 << 32, math.MaxInt / 2, math.MaxInt - 1, math.MaxInt}
}

// shapes are all that may be.
func shapes() []api.Shape {
	var l []api.Shape
	for h := 1; h <= 16; h++ {
		for w := 1; w <= 16; w++ {
			for c := 1; c <= 8; c++ {
				l = append(l, api.Shape{H: h, W: w, C: c})
			}
		}
	}
	return l
}

// wrong are shapes that may not be: each side below and above its bounds, the others within, or wrong likewise.
func wrong() []api.Shape {
	l := []api.Shape{
		{}, {H: 0, W: 1, C: 1}, {H: 1, W: 0, C: 1}, {H: 1, W: 1, C: 0},
		{H: -1, W: 2, C: 3}, {H: 2, W: -1, C: 3}, {H: 2, W: 3, C: -1},
		{H: 17, W: 1, C: 1}, {H: 1, W: 17, C: 1}, {H: 1, W: 1, C: 9}, {H: 16, W: 16, C: 9}, {H: 16, W: 17, C: 8}, {H: 17, W: 16, C: 8},
		{H: -2, W: -3, C: 4}, {H: -2, W: 3, C: -4}, {H: 2, W: -3, C: -4}, {H: -2, W: -3, C: -4},
	}
	for _, x := range wild() {
		l = append(l, api.Shape{H: x, W: 2, C: 3}, api.Shape{H: 2, W: x, C: 3}, api.Shape{H: 2, W: 3, C: x}, api.Shape{H: x, W: x, C: x})
	}
	return l
}

// P2.1

func TestMay(t *testing.T) {
	for _, s := range shapes() {
		if e := May(s); e != api.OK {
			t.Errorf("May(%v): %d", s, e)
		}
	}
	for _, s := range wrong() {
		if e := May(s); e != api.ErrShape {
			t.Errorf("May(%v): %d, not ErrShape", s, e)
		}
	}
}

func TestSizeAndRow(t *testing.T) {
	for _, x := range []struct {
		s         api.Shape
		size, row int
	}{
		{api.Shape{H: 1, W: 1, C: 1}, 1, 1}, {api.Shape{H: 2, W: 3, C: 5}, 30, 15}, {api.Shape{H: 5, W: 3, C: 2}, 30, 6},
		{api.Shape{H: 16, W: 1, C: 1}, 16, 1}, {api.Shape{H: 1, W: 16, C: 1}, 16, 16}, {api.Shape{H: 1, W: 1, C: 8}, 8, 8}, {api.Shape{H: 16, W: 16, C: 8}, 2048, 128},
	} {
		if size, row := Size(x.s), Row(x.s); size != x.size || row != x.row {
			t.Errorf("%v: Size %d, Row %d, not %d, %d", x.s, size, row, x.size, x.row)
		}
	}
	for _, s := range shapes() {
		if Size(s) != s.H*s.W*s.C || Row(s) != s.W*s.C {
			t.Errorf("%v: Size %d, Row %d", s, Size(s), Row(s))
		}
	}
	for _, s := range wrong() {
		if Size(s) != 0 || Row(s) != 0 {
			t.Errorf("%v may not be: Size %d, Row %d", s, Size(s), Row(s))
		}
	}
}

func TestIndex(t *testing.T) {
	s := api.Shape{H: 2, W: 3, C: 4}
	for _, x := range [][4]int{
		{0, 0, 0, 0}, {0, 0, 3, 3}, {0, 1, 0, 4}, {0, 2, 3, 11}, {1, 0, 0, 12}, {1, 1, 2, 18}, {1, 2, 3, 23},
		{-1, 1, 1, -1}, {2, 1, 1, -1}, {1, -1, 1, -1}, {1, 3, 1, -1}, {1, 1, -1, -1}, {1, 1, 4, -1}, {2, 3, 4, -1}, {-1, -1, -1, -1},
		{2, -3, 0, -1}, {0, -1, 4, -1}, {-1, 3, 0, -1},
	} {
		if got := Index(s, x[0], x[1], x[2]); got != x[3] {
			t.Errorf("Index(%v, %d, %d, %d): %d, not %d", s, x[0], x[1], x[2], got, x[3])
		}
	}
	for _, x := range wild() {
		if a, b, c, d := Index(s, x, 0, 0), Index(s, 0, x, 0), Index(s, 0, 0, x), Index(s, x, x, x); a != -1 || b != -1 || c != -1 || d != -1 {
			t.Errorf("Index of %d: %d, %d, %d, %d", x, a, b, c, d)
		}
	}
}

func TestIndexOfNoShape(t *testing.T) {
	for _, s := range wrong() {
		for _, at := range [][3]int{{0, 0, 0}, {1, 1, 1}, {-1, -1, -1}, {s.H - 1, s.W - 1, s.C - 1}} {
			if got := Index(s, at[0], at[1], at[2]); got != -1 {
				t.Errorf("Index(%v, %v): %d, but it may not be", s, at, got)
			}
		}
	}
}

// P2.2

// places counts the windows one by one, from the one that begins with all of the padding ahead.
func places(size, k, stride, pad int) int {
	n := 0
	for start := -pad; start+k <= size+pad; start += stride {
		n++
	}
	return n
}

func TestOut(t *testing.T) {
	for _, x := range [][5]int{
		{5, 3, 2, 1, 3}, {5, 3, 1, 0, 3}, {5, 3, 2, 0, 2}, {6, 3, 2, 0, 2}, {7, 3, 2, 0, 3}, {5, 1, 1, 0, 5}, {5, 1, 1, 1, 7}, {5, 2, 3, 0, 2}, {5, 3, 16, 0, 1},
		// k as wide as all of it, or one more
		{3, 3, 1, 0, 1}, {3, 3, 5, 0, 1}, {3, 4, 1, 0, 0}, {3, 5, 1, 1, 1}, {3, 6, 1, 1, 0}, {1, 3, 1, 1, 1}, {1, 4, 1, 1, 0}, {16, 16, 1, 0, 1}, {15, 16, 1, 0, 0}, {1, 16, 1, 7, 0}, {1, 16, 1, 8, 2},
		// the bounds, and one beyond
		{1, 1, 1, 0, 1}, {0, 1, 1, 0, 0}, {0, 1, 1, 1, 0}, {-1, 1, 1, 4, 0}, {64, 1, 1, 0, 64}, {65, 1, 1, 0, 0}, {64, 16, 16, 16, 6}, {64, 1, 1, 16, 96},
		{20, 0, 1, 0, 0}, {20, -1, 1, 0, 0}, {20, 16, 1, 0, 5}, {20, 17, 1, 0, 0},
		{20, 2, 0, 0, 0}, {20, 2, -1, 0, 0}, {20, 2, 16, 0, 2}, {20, 2, 17, 0, 0},
		{20, 2, 1, -1, 0}, {20, 2, 1, 16, 51}, {20, 2, 1, 17, 0},
	} {
		if got := Out(x[0], x[1], x[2], x[3]); got != x[4] {
			t.Errorf("Out(%d, %d, %d, %d): %d, not %d", x[0], x[1], x[2], x[3], got, x[4])
		}
	}
}

func TestOutOfAll(t *testing.T) {
	for size := -1; size <= 66; size++ {
		for k := -1; k <= 18; k++ {
			for stride := -1; stride <= 18; stride++ {
				for pad := -1; pad <= 18; pad++ {
					want := 0
					if size >= 1 && size <= 64 && k >= 1 && k <= 16 && stride >= 1 && stride <= 16 && pad >= 0 && pad <= 16 {
						want = places(size, k, stride, pad)
					}
					if got := Out(size, k, stride, pad); got != want {
						t.Fatalf("Out(%d, %d, %d, %d): %d, not %d", size, k, stride, pad, got, want)
					}
				}
			}
		}
	}
}

func TestOutOfWildNumbers(t *testing.T) {
	for _, x := range wild() {
		if a, b, c, d, e := Out(x, 2, 1, 1), Out(9, x, 1, 1), Out(9, 2, x, 1), Out(9, 2, 1, x), Out(x, x, x, x); a != 0 || b != 0 || c != 0 || d != 0 || e != 0 {
			t.Errorf("Out of %d: %d, %d, %d, %d, %d", x, a, b, c, d, e)
		}
	}
}

// P2.3

// looked asks of each number of size by itself whether it is under one of the windows.
func looked(first, rows, k, stride, pad, size int) (from, to int) {
	for i := size - 1; i >= 0; i-- {
		for p := first; p < first+rows; p++ {
			start := p*stride - pad
			if i < start || i >= start+k {
				continue
			}
			from = i
			if to == 0 {
				to = i + 1
			}
		}
	}
	return from, to
}

func TestReach(t *testing.T) {
	for _, x := range [][8]int{
		// first, rows, k, stride, pad, size: from, to
		{1, 2, 3, 2, 1, 5, 1, 5}, {0, 1, 3, 2, 1, 5, 0, 2}, {0, 3, 3, 2, 1, 5, 0, 5}, {2, 1, 3, 2, 1, 5, 3, 5}, {1, 1, 3, 2, 1, 5, 1, 4},
		{0, 1, 1, 1, 0, 1, 0, 1}, {0, 3, 3, 1, 0, 5, 0, 5}, {2, 1, 3, 1, 0, 5, 2, 5}, {0, 2, 2, 2, 0, 5, 0, 4}, {1, 1, 1, 1, 0, 3, 1, 2},
		// strides that leave numbers between windows, and behind the last
		{0, 2, 1, 3, 0, 6, 0, 4}, {1, 1, 2, 4, 0, 7, 4, 6},
		// nothing is under the first place, or the last, or both
		{0, 1, 1, 1, 1, 3, 0, 0}, {4, 1, 1, 1, 1, 3, 0, 0}, {0, 2, 1, 1, 1, 3, 0, 1}, {3, 2, 1, 1, 1, 3, 2, 3}, {0, 5, 1, 1, 1, 3, 0, 3},
		{0, 2, 2, 1, 4, 3, 0, 0}, {0, 4, 2, 1, 4, 3, 0, 1}, {7, 1, 2, 1, 4, 3, 0, 0}, {6, 1, 2, 1, 4, 3, 2, 3}, {8, 2, 2, 1, 4, 3, 0, 0},
		// a place beside all of it, and one that begins farther in: 0 is under none
		{0, 2, 1, 3, 2, 6, 1, 2}, {0, 1, 1, 3, 2, 6, 0, 0}, {0, 3, 1, 3, 2, 6, 1, 5}, {2, 2, 1, 3, 2, 6, 4, 5}, {0, 2, 1, 5, 3, 8, 2, 3},
		// all places step over it
		{0, 2, 1, 4, 2, 1, 0, 0}, {0, 3, 1, 16, 16, 1, 0, 1},
		// the widest
		{0, 96, 1, 1, 16, 64, 0, 64}, {0, 16, 1, 1, 16, 64, 0, 0}, {16, 1, 1, 1, 16, 64, 0, 1}, {79, 1, 1, 1, 16, 64, 63, 64}, {80, 16, 1, 1, 16, 64, 0, 0},
	} {
		if from, to := Reach(x[0], x[1], x[2], x[3], x[4], x[5]); from != x[6] || to != x[7] {
			t.Errorf("Reach(%v): %d, %d, not %d, %d", x[:6], from, to, x[6], x[7])
		}
	}
}

func TestReachOfNothing(t *testing.T) {
	for _, x := range [][6]int{
		// first or rows out of the three places
		{-1, 1, 3, 2, 1, 5}, {-1, 3, 3, 2, 1, 5}, {1, 0, 3, 2, 1, 5}, {1, -1, 3, 2, 1, 5}, {2, 2, 3, 2, 1, 5}, {3, 1, 3, 2, 1, 5}, {0, 4, 3, 2, 1, 5}, {4, -1, 3, 2, 1, 5},
		// Out is 0
		{0, 1, 6, 1, 0, 5}, {0, 1, 1, 1, 0, 0}, {0, 1, 1, 1, 0, 65}, {0, 1, 0, 1, 0, 5}, {0, 1, 17, 1, 16, 5}, {0, 1, 1, 0, 0, 5}, {0, 1, 1, 17, 0, 5}, {1, 1, 1, 1, -1, 5}, {17, 1, 1, 1, 17, 5},
		// first and rows together are beyond an int
		{1, math.MaxInt, 3, 2, 1, 5}, {math.MaxInt, 1, 3, 2, 1, 5}, {math.MaxInt, math.MaxInt, 3, 2, 1, 5}, {2, math.MaxInt - 1, 3, 2, 1, 5}, {math.MinInt, math.MinInt, 3, 2, 1, 5}, {math.MinInt, 1, 3, 2, 1, 5}, {1, math.MinInt, 3, 2, 1, 5},
	} {
		if from, to := Reach(x[0], x[1], x[2], x[3], x[4], x[5]); from != 0 || to != 0 {
			t.Errorf("Reach(%v): %d, %d", x, from, to)
		}
	}
	for _, x := range wild() {
		for at := range 6 {
			with := [6]int{1, 1, 3, 2, 1, 5}
			with[at] = x
			if from, to := Reach(with[0], with[1], with[2], with[3], with[4], with[5]); from != 0 || to != 0 {
				t.Errorf("Reach(%v): %d, %d", with, from, to)
			}
		}
	}
}

func TestReachIsWhatIsLookedAt(t *testing.T) {
	sides := []int{1, 2, 3, 4, 5, 7, 15, 16}
	for _, size := range []int{1, 2, 3, 5, 8, 16, 63, 64} {
		for _, k := range sides {
			for _, stride := range sides {
				for _, pad := range append(sides, 0) {
					if !reachesAll(t, k, stride, pad, size) {
						return
					}
				}
			}
		}
	}
}

func reachesAll(t *testing.T, k, stride, pad, size int) bool {
	n := places(size, k, stride, pad)
	for first := 0; first < n; first++ {
		for rows := 1; first+rows <= n; rows += 1 + rows/8 {
			from, to := Reach(first, rows, k, stride, pad, size)
			if a, b := looked(first, rows, k, stride, pad, size); from != a || to != b {
				t.Errorf("Reach(%d, %d, %d, %d, %d, %d): %d, %d, not %d, %d", first, rows, k, stride, pad, size, from, to, a, b)
				return false
			}
		}
	}
	return true
}

// P2.4

func TestIndexesAreUnlike(t *testing.T) {
	for _, s := range shapes() {
		seen := make([]bool, s.H*s.W*s.C)
		next := 0
		for y := 0; y < s.H; y++ {
			for x := 0; x < s.W; x++ {
				for c := 0; c < s.C; c++ {
					i := Index(s, y, x, c)
					if i < 0 || i >= Size(s) || seen[i] || i != next {
						t.Fatalf("Index(%v, %d, %d, %d): %d, not %d", s, y, x, c, i, next)
					}
					seen[i] = true
					next++
				}
			}
		}
		if next != Size(s) {
			t.Fatalf("%v has %d indexes, Size %d", s, next, Size(s))
		}
	}
}
