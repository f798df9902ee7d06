package kern

import (
	"quilt/api"
	"quilt/shape"
)

// A view is a value of which the rows of a window alone are at hand.
type view struct {
	api.Value
	api.Window
}

// may tells whether the window is one of the value.
func (v view) may() bool {
	// What is left behind Base is held against Have: both together may be beyond an int.
	within := v.Base >= 0 && v.Have >= 0 && v.Have <= v.Shape.H-v.Base
	return within && len(v.V) == v.Have*shape.Row(v.Shape)
}

// has tells whether some rows are at hand: no rows always are, wherever the window is.
func (v view) has(from, to int) bool {
	return from == to || v.Base <= from && to <= v.Base+v.Have
}

// at is a number of the value, or what stands for nought beyond its rows and columns.
func (v view) at(y, x, c int) int {
	i := shape.Index(v.Shape, y, x, c)
	if i < 0 {
		return v.Zero
	}
	return int(v.V[i-v.Base*shape.Row(v.Shape)])
}

// over is how far a number is from what stands for nought.
func (v view) over(y, x, c int) int { return v.at(y, x, c) - v.Zero }
