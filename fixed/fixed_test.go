package fixed

import (
	"math"
	"math/big"
	"testing"

	"quilt/api"
)

// edges are numbers at and about each bound that the chapter names, of either sign, up to where Div is promised.
func edges() []int {
	var l []int
	for _, x := range []int{0, 1, 2, 3, 5, 7, 127, 128, 255, 1000, 1<<15 - 1, 1 << 15, 1 << 24, 1<<31 - 1, 1 << 31, 1 << 40, 1<<46 - 1, 1 << 59, 1<<60 - 1, 1 << 60} {
		for _, y := range []int{x - 1, x, x + 1, -x - 1, -x, 1 - x} {
			l = append(l, held(y, -1<<60, 1<<60))
		}
	}
	return l
}

// wild are numbers of which no more is promised than that the calls end.
func wild() []int {
	return []int{math.MinInt, math.MinInt + 1, math.MinInt / 2, math.MaxInt / 2, math.MaxInt - 1, math.MaxInt}
}

func held(x, least, most int) int {
	if x < least {
		return least
	}
	if x > most {
		return most
	}
	return x
}

// rounded is the nearest whole number of x by by, of two the farther from 0, told by numbers without bounds.
func rounded(x, by int) int {
	if by < 1 {
		by = 1
	}
	twice := new(big.Int).Abs(big.NewInt(int64(x)))
	twice.Lsh(twice, 1)
	d := big.NewInt(int64(by))
	q := twice.Add(twice, d)
	q.Quo(q, d.Lsh(d, 1))
	if x < 0 {
		q.Neg(q)
	}
	return int(q.Int64())
}

func TestClamp(t *testing.T) {
	for _, x := range [][2]int{{0, 0}, {5, 5}, {-5, -5}, {126, 126}, {127, 127}, {128, 127}, {129, 127}, {-127, -127}, {-128, -128}, {-129, -128}, {1 << 40, 127}, {-1 << 40, -128}, {math.MaxInt, 127}, {math.MinInt, -128}} {
		if got := Clamp(x[0]); got != x[1] {
			t.Errorf("Clamp(%d): %d, not %d", x[0], got, x[1])
		}
	}
}

func TestSat(t *testing.T) {
	const most, least = 1<<31 - 1, -1 << 31
	for _, x := range [][2]int{{0, 0}, {-7, -7}, {200, 200}, {most - 1, most - 1}, {most, most}, {most + 1, most}, {least + 1, least + 1}, {least, least}, {least - 1, least}, {1 << 40, most}, {-1 << 40, least}, {math.MaxInt, most}, {math.MinInt, least}} {
		if got := Sat(x[0]); got != x[1] {
			t.Errorf("Sat(%d): %d, not %d", x[0], got, x[1])
		}
	}
}

func TestDiv(t *testing.T) {
	for _, x := range [][3]int{
		{5, 2, 3}, {-5, 2, -3}, {1, 2, 1}, {-1, 2, -1}, {4, 3, 1}, {-4, 3, -1}, {5, 3, 2}, {-5, 3, -2}, {0, 9, 0},
		{7, 4, 2}, {6, 4, 2}, {5, 4, 1}, {-6, 4, -2}, {7, 1, 7}, {7, 0, 7}, {-7, -3, -7}, {7, math.MinInt, 7},
		{1 << 60, 1, 1 << 60}, {-1 << 60, 1, -1 << 60}, {1 << 60, 1 << 60, 1}, {1 << 59, 1 << 60, 1}, {1<<59 - 1, 1 << 60, 0}, {-1 << 59, 1 << 60, -1}, {1 - 1<<59, 1 << 60, 0},
	} {
		if got := Div(x[0], x[1]); got != x[2] {
			t.Errorf("Div(%d, %d): %d, not %d", x[0], x[1], got, x[2])
		}
	}
}

func TestDivIsRounded(t *testing.T) {
	for x := -200; x <= 200; x++ {
		for by := -3; by <= 60; by++ {
			if got, want := Div(x, by), rounded(x, by); got != want {
				t.Fatalf("Div(%d, %d): %d, not %d", x, by, got, want)
			}
		}
	}
	for _, x := range edges() {
		for _, by := range edges() {
			if got, want := Div(x, by), rounded(x, by); got != want {
				t.Fatalf("Div(%d, %d): %d, not %d", x, by, got, want)
			}
		}
	}
}

func TestShift(t *testing.T) {
	for _, x := range [][3]int{
		{-3, 1, -2}, {3, 1, 2}, {8, 2, 2}, {6, 2, 2}, {5, 2, 1}, {-6, 2, -2}, {7, 0, 7}, {7, -1, 7}, {-7, math.MinInt, -7},
		{1 << 40, 30, 1 << 10}, {1 << 40, 31, 1 << 9}, {1 << 40, 32, 1 << 9}, {1 << 40, 63, 1 << 9}, {1 << 40, 64, 1 << 9}, {-1 << 40, math.MaxInt, -1 << 9},
		{1 << 30, 31, 1}, {1<<30 - 1, 31, 0}, {-1 << 30, 31, -1}, {1 - 1<<30, 31, 0},
	} {
		if got := Shift(x[0], x[1]); got != x[2] {
			t.Errorf("Shift(%d, %d): %d, not %d", x[0], x[1], got, x[2])
		}
	}
}

func TestShiftIsDiv(t *testing.T) {
	for _, x := range edges() {
		for shift := -3; shift <= 70; shift++ {
			if got, want := Shift(x, shift), rounded(x, 1<<held(shift, 0, 31)); got != want {
				t.Fatalf("Shift(%d, %d): %d, not %d", x, shift, got, want)
			}
		}
	}
}

func TestScale(t *testing.T) {
	for _, x := range [][5]int{
		{100, 3, 2, -5, 70}, {-100, 3, 2, 5, -70}, {0, 1, 0, 0, 0}, {3, 1, 1, 0, 2}, {-3, 1, 1, 0, -2},
		{1000, 1, 0, 0, 127}, {-1000, 1, 0, 5, -128},
		// mul is held
		{10, 0, 0, 0, 10}, {10, -4, 0, 0, 10}, {10, math.MinInt, 0, 0, 10}, {1, 1 << 20, 10, 0, 32}, {1, math.MaxInt, 15, 0, 1}, {1, 1<<15 - 1, 14, 0, 2},
		// 32770 times MaxMul is just above half of 2^31, 32769 times it just below
		{32770, 1<<15 - 1, 31, 0, 1}, {32770, 1<<15 - 2, 31, 0, 0}, {32769, 1<<15 - 1, 31, 0, 0}, {32769, 1 << 15, 31, 0, 0},
		// only acc is held ahead of the product
		{1 << 40, 1, 31, 0, 1}, {-1 << 40, 1, 31, 0, -1}, {1 << 40, 100, 31, 0, 100}, {1<<31 - 1, 100, 31, 0, 100}, {-1 << 31, 100, 31, 0, -100}, {1 << 30, 64, 31, 0, 32}, {1 << 30, 64, 99, 0, 32},
		// zero is held ahead of the sum
		{0, 7, 3, 400, 127}, {0, 7, 3, -400, -128}, {-100, 1, 0, 400, 27}, {100, 1, 0, -400, -28}, {-100, 1, 0, math.MaxInt, 27}, {100, 1, 0, math.MinInt, -28},
		// the shifted product is not held ahead of the sum
		{200, 1, 0, -100, 100}, {-200, 1, 0, 100, -100},
		{5, 1, -1, 0, 5},
	} {
		if got := Scale(x[0], x[1], x[2], x[3]); got != x[4] {
			t.Errorf("Scale(%d, %d, %d, %d): %d, not %d", x[0], x[1], x[2], x[3], got, x[4])
		}
	}
}

func TestScaleOfEdges(t *testing.T) {
	accs := append(edges(), wild()...)
	for _, acc := range accs {
		for _, mul := range []int{-1, 0, 1, 2, 3, 1000, 1<<15 - 2, 1<<15 - 1, 1 << 15, math.MaxInt} {
			for _, shift := range []int{-1, 0, 1, 7, 15, 30, 31, 32, 64, math.MaxInt} {
				for _, zero := range []int{math.MinInt, -129, -128, -1, 0, 3, 127, 128, math.MaxInt} {
					product := held(acc, -1<<31, 1<<31-1) * held(mul, 1, api.MaxMul)
					want := held(held(zero, -128, 127)+rounded(product, 1<<held(shift, 0, 31)), -128, 127)
					if got := Scale(acc, mul, shift, zero); got != want {
						t.Fatalf("Scale(%d, %d, %d, %d): %d, not %d", acc, mul, shift, zero, got, want)
					}
				}
			}
		}
	}
}

func TestScaleDoesNotFall(t *testing.T) {
	for _, with := range [][3]int{{1, 0, 0}, {3, 2, -5}, {7, 4, 100}, {1<<15 - 1, 15, -128}, {1, 31, 127}, {1<<15 - 1, 31, 0}, {5, 9, 1000}, {0, 40, -1000}} {
		for _, about := range []int{0, -1 << 31, 1<<31 - 1, math.MinInt + 600, math.MaxInt - 600} {
			before := Scale(about-600, with[0], with[1], with[2])
			for acc := about - 599; acc < about+600; acc++ {
				now := Scale(acc, with[0], with[1], with[2])
				if now < before {
					t.Fatalf("Scale of %v falls at %d: %d, then %d", with, acc, before, now)
				}
				before = now
			}
		}
		low, high := Scale(math.MinInt, with[0], with[1], with[2]), Scale(math.MaxInt, with[0], with[1], with[2])
		if low > high {
			t.Errorf("Scale of %v: %d at the least, %d at the greatest", with, low, high)
		}
	}
}

func TestRoundingIsTheSameOnEitherSide(t *testing.T) {
	for _, x := range edges() {
		for _, by := range edges() {
			if Div(x, by) != -Div(-x, by) {
				t.Fatalf("Div(%d, %d) and of %d", x, by, -x)
			}
		}
		for shift := -1; shift <= 33; shift++ {
			if Shift(x, shift) != -Shift(-x, shift) {
				t.Fatalf("Shift(%d, %d) and of %d", x, shift, -x)
			}
		}
	}
	// Three times 42 is within the bounds on either side, so that nothing but the rounding is seen.
	for acc := 0; acc <= 42; acc++ {
		for shift := 0; shift < 9; shift++ {
			up, down := Scale(acc, 3, shift, 0), Scale(-acc, 3, shift, 0)
			if up != -down {
				t.Fatalf("Scale(%d, 3, %d, 0): %d, and of %d: %d", acc, shift, up, -acc, down)
			}
		}
	}
}

func TestWildNumbersEnd(t *testing.T) {
	l := append(wild(), edges()...)
	for _, x := range l {
		for _, y := range l {
			Div(x, y)
			Shift(x, y)
			if got := Scale(x, y, y, x); got < -128 || got > 127 {
				t.Fatalf("Scale(%d, %d, %d, %d): %d", x, y, y, x, got)
			}
		}
	}
}
