package kern

import (
	"quilt/api"
	"quilt/graph"
	"quilt/shape"
)

// A task is a node that may be, with the values that it is made of, and the shape of what it makes.
type task struct {
	api.Node
	values []api.Value
	made   api.Shape
}

func taskOf(n api.Node, in []api.Value) (task, api.Errno) {
	made, e := graph.Value(n, in)
	if e != api.OK {
		return task{}, e
	}
	return task{Node: n, values: in, made: made.Shape}, api.OK
}

func (t task) needs(first, rows int) ([2][2]int, api.Errno) {
	// What is left behind first is held against rows: both together may be beyond an int.
	if first < 0 || rows < 1 || rows > t.made.H-first {
		return [2][2]int{}, api.ErrArg
	}
	var needs [2][2]int
	for i, v := range t.values {
		needs[i][0], needs[i][1] = t.looks(v.Shape.H, first, rows)
	}
	return needs, api.OK
}

// looks tells which of the h rows of a value go with some rows of what is made.
func (t task) looks(h, first, rows int) (from, to int) {
	switch t.Op {
	case api.OpConv, api.OpDepth, api.OpMax, api.OpAvg:
		return shape.Reach(first, rows, t.K, t.Stride, t.Pad, h)
	case api.OpPad:
		// It looks through a window of one number, and so leaves out the rows of the frame as Reach does.
		return shape.Reach(first, rows, 1, 1, t.Pad, h)
	case api.OpFull, api.OpReshape:
		return 0, h
	}
	return first, first + rows
}

// views lays the windows under the values; false, if one of them is none, or has not all rows that are needed.
func (t task) views(w [2]api.Window, needs [2][2]int) ([2]view, bool) {
	var views [2]view
	for i, v := range t.values {
		views[i] = view{v, w[i]}
		if !views[i].may() || !views[i].has(needs[i][0], needs[i][1]) {
			return [2]view{}, false
		}
	}
	return views, true
}

func (t task) row(views [2]view, y int) []int8 {
	number := t.maker(views[0], views[1])
	var row []int8
	for x := range t.made.W {
		for c := range t.made.C {
			row = append(row, int8(number(y, x, c)))
		}
	}
	return row
}
