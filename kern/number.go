package kern

import (
	"math"

	"quilt/api"
	"quilt/fixed"
	"quilt/shape"
)

// A maker tells the number that is made at a row, a column and a channel.
type maker func(y, x, c int) int

// maker is the one place that sets ops apart by what they make. Of an op of one value b is not looked at.
func (t task) maker(a, b view) maker {
	switch t.Op {
	case api.OpConv:
		return t.scaled(t.weighed(a, a.Shape.C, func(c int) int { return 0 }))
	case api.OpDepth:
		return t.scaled(t.weighed(a, 1, func(c int) int { return c }))
	case api.OpFull:
		return t.scaled(t.whole(a))
	case api.OpMax:
		return t.greatest(a)
	case api.OpAvg:
		return t.mean(a)
	case api.OpAdd:
		return t.scaled(func(y, x, c int) int { return a.over(y, x, c) + b.over(y, x, c) })
	case api.OpMul:
		return t.scaled(func(y, x, c int) int { return a.over(y, x, c) * b.over(y, x, c) })
	case api.OpRelu:
		return func(y, x, c int) int { return max(a.at(y, x, c), t.Zero) }
	case api.OpPad:
		return func(y, x, c int) int { return a.at(y-t.Pad, x-t.Pad, c) }
	case api.OpConcat:
		return stacked(a, b)
	case api.OpReshape:
		// It needs all rows, so that V is the whole value.
		return func(y, x, c int) int { return int(a.V[shape.Index(t.made, y, x, c)]) }
	}
	// graph.Value lets no other op through than the one that is left, OpTable.
	return func(y, x, c int) int { return int(t.W[a.at(y, x, c)-math.MinInt8]) }
}

func (t task) scaled(acc maker) maker {
	return func(y, x, c int) int { return fixed.Scale(acc(y, x, c), t.Mul, t.Shift, t.Zero) }
}

// window shows each place of the window at a row and a column of what is made: its number, and where in the value it is.
func (t task) window(y, x int, show func(place, row, column int)) {
	for i := range t.K {
		for j := range t.K {
			show(i*t.K+j, y*t.Stride-t.Pad+i, x*t.Stride-t.Pad+j)
		}
	}
}

// weighed is of OpConv and OpDepth both: these differ in how many channels a channel of what is made looks at, and from which one on.
func (t task) weighed(a view, many int, from func(c int) int) maker {
	return func(y, x, c int) int {
		acc := int(t.B[c])
		t.window(y, x, func(place, row, column int) {
			weights := t.W[(c*t.K*t.K+place)*many:]
			for d := range many {
				acc += a.over(row, column, from(c)+d) * int(weights[d])
			}
		})
		return acc
	}
}

func (t task) whole(a view) maker {
	return func(y, x, c int) int {
		acc := int(t.B[c])
		for i, number := range a.V {
			acc += (int(number) - a.Zero) * int(t.W[c*len(a.V)+i])
		}
		return acc
	}
}

func (t task) greatest(a view) maker {
	return func(y, x, c int) int {
		most := math.MinInt8
		t.window(y, x, func(_, row, column int) { most = max(most, a.at(row, column, c)) })
		return most
	}
}

func (t task) mean(a view) maker {
	return func(y, x, c int) int {
		sum := 0
		t.window(y, x, func(_, row, column int) { sum += a.at(row, column, c) })
		return fixed.Div(sum, t.K*t.K)
	}
}

func stacked(a, b view) maker {
	return func(y, x, c int) int {
		if c < a.Shape.C {
			return a.at(y, x, c)
		}
		return b.at(y, x, c-a.Shape.C)
	}
}
