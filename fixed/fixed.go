// Package fixed is layer 1: whole numbers that are held within bounds: see shared/doc/01-fixed.md.
package fixed

import (
	"math"

	"quilt/api"
)

// within keeps a pair of bounds in one place, so that all that hold a number within some do it alike.
func within(least, most int) func(int) int {
	return func(x int) int { return max(least, min(x, most)) }
}

// Clamp and Sat hold numbers within bounds, Div and Shift round, Scale does all of it.
func Clamp(x int) int { return within(math.MinInt8, math.MaxInt8)(x) }

func Sat(x int) int { return within(math.MinInt32, math.MaxInt32)(x) }

func Div(x, by int) int {
	by = max(by, 1)
	whole, rest := x/by, x%by
	// The rest is held against what it lacks: two times the rest may be beyond an int.
	if rest > 0 && rest >= by-rest {
		return whole + 1
	}
	if rest < 0 && -rest >= by+rest {
		return whole - 1
	}
	return whole
}

func Shift(x, shift int) int {
	return Div(x, 1<<within(0, api.MaxShift)(shift))
}

func Scale(acc, mul, shift, zero int) int {
	// The product cannot wrap round: 2^31 times 2^15 at most.
	product := Sat(acc) * within(1, api.MaxMul)(mul)
	return Clamp(Clamp(zero) + Shift(product, shift))
}
