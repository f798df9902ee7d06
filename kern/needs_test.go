package kern

import (
	"math"
	"testing"

	"quilt/api"
)

// P5.2

// expectNeeds asks Needs, and that beside an error there is none.
func expectNeeds(t *testing.T, what string, n api.Node, in []api.Value, first, rows int, want [2][2]int, e api.Errno) {
	t.Helper()
	if got, err := Needs(n, in, first, rows); got != want || err != e {
		t.Errorf("%s, %d rows from %d on: %v, %d, not %v, %d", what, rows, first, got, err, want, e)
	}
}

func TestNeedsOfWindows(t *testing.T) {
	v := value(5, 4, 3, 6)
	for _, x := range []struct {
		s                     sample
		first, rows, from, to int
	}{
		{conv(v, 3, 2, 1, 4), 0, 1, 0, 2}, {conv(v, 3, 2, 1, 4), 1, 1, 1, 4}, {conv(v, 3, 2, 1, 4), 2, 1, 3, 5},
		{conv(v, 3, 2, 1, 4), 1, 2, 1, 5}, {conv(v, 3, 2, 1, 4), 0, 3, 0, 5},
		{conv(v, 1, 1, 0, 1), 4, 1, 4, 5}, {conv(v, 1, 2, 0, 1), 0, 3, 0, 5}, {conv(v, 1, 2, 0, 1), 0, 2, 0, 3}, {conv(v, 3, 1, 0, 1), 2, 1, 2, 5},
		{depth(v, 2, 1, 1), 0, 1, 0, 1}, {depth(v, 2, 1, 1), 5, 1, 4, 5}, {depth(v, 2, 1, 1), 1, 4, 0, 5}, {depth(v, 2, 1, 1), 2, 2, 1, 4},
		{depth(v, 2, 2, 1), 2, 1, 3, 5}, {depth(v, 3, 1, 1), 0, 1, 0, 2},
		{pooled("OpMax", api.OpMax, v, 2, 2), 0, 2, 0, 4}, {pooled("OpMax", api.OpMax, v, 2, 2), 1, 1, 2, 4}, {pooled("OpMax", api.OpMax, v, 1, 2), 1, 1, 2, 3},
		{pooled("OpAvg", api.OpAvg, v, 3, 1), 1, 2, 1, 5}, {pooled("OpAvg", api.OpAvg, v, 3, 2), 0, 1, 0, 3}, {pooled("OpAvg", api.OpAvg, v, 3, 2), 1, 1, 2, 5},
	} {
		expectNeeds(t, x.s.name, x.s.n, x.s.in, x.first, x.rows, [2][2]int{{x.from, x.to}}, api.OK)
	}
}

func TestNeedsWithoutWindows(t *testing.T) {
	for op, s := range ofEach() {
		switch op {
		case api.OpAdd, api.OpMul, api.OpConcat:
			expectNeeds(t, s.name, s.n, s.in, 1, 3, [2][2]int{{1, 4}, {1, 4}}, api.OK)
			expectNeeds(t, s.name, s.n, s.in, 0, 5, [2][2]int{{0, 5}, {0, 5}}, api.OK)
			expectNeeds(t, s.name, s.n, s.in, 4, 1, [2][2]int{{4, 5}, {4, 5}}, api.OK)
		case api.OpRelu, api.OpTable:
			expectNeeds(t, s.name, s.n, s.in, 1, 3, [2][2]int{{1, 4}}, api.OK)
			expectNeeds(t, s.name, s.n, s.in, 0, 5, [2][2]int{{0, 5}}, api.OK)
			expectNeeds(t, s.name, s.n, s.in, 4, 1, [2][2]int{{4, 5}}, api.OK)
		case api.OpFull, api.OpReshape:
			expectNeeds(t, s.name, s.n, s.in, 0, 1, [2][2]int{{0, 5}}, api.OK)
		}
	}
	// Ten rows are made of five: each needs all of these.
	n := api.Node{Op: api.OpReshape, To: api.Shape{H: 10, W: 2, C: 3}, Mul: 1, Zero: 6}
	expectNeeds(t, "OpReshape", n, one(value(5, 4, 3, 6)), 7, 2, [2][2]int{{0, 5}}, api.OK)
	expectNeeds(t, "OpReshape", n, one(value(5, 4, 3, 6)), 9, 1, [2][2]int{{0, 5}}, api.OK)
	expectNeeds(t, "OpReshape", n, one(value(5, 4, 3, 6)), 9, 2, [2][2]int{}, api.ErrArg)
}

// The first and the last row that OpPad makes are of no row.
func TestNeedsOfPad(t *testing.T) {
	n := api.Node{Op: api.OpPad, Pad: 1, Mul: 1}
	for _, x := range [][5]int{
		// rows of the value; first, rows: from, to
		{2, 0, 1, 0, 0}, {2, 3, 1, 0, 0}, {2, 1, 1, 0, 1}, {2, 2, 1, 1, 2}, {2, 0, 2, 0, 1}, {2, 1, 2, 0, 2}, {2, 2, 2, 1, 2}, {2, 0, 4, 0, 2}, {2, 1, 3, 0, 2}, {2, 0, 3, 0, 2},
		{1, 0, 1, 0, 0}, {1, 1, 1, 0, 1}, {1, 2, 1, 0, 0}, {1, 0, 3, 0, 1}, {1, 0, 2, 0, 1}, {1, 1, 2, 0, 1},
		{14, 15, 1, 0, 0}, {14, 14, 2, 13, 14}, {14, 5, 3, 4, 7},
	} {
		expectNeeds(t, "OpPad", n, one(value(x[0], 1, 1, 0)), x[1], x[2], [2][2]int{{x[3], x[4]}}, api.OK)
	}
}

// All rows that are looked at are told, and no more than lie between the first and the last of them.
func TestNeedsAreWhatIsLookedAt(t *testing.T) {
	for _, s := range samples() {
		h := s.made().Shape.H
		for first := range h {
			for rows := 1; first+rows <= h; rows++ {
				_, want := s.rows(first, rows)
				if s.n.Op == api.OpReshape {
					want[0] = [2]int{0, s.in[0].Shape.H}
				}
				expectNeeds(t, s.name, s.n, s.in, first, rows, want, api.OK)
			}
		}
	}
}

func TestNeedsOfRowsThatAreNotThere(t *testing.T) {
	for _, s := range samples() {
		h := s.made().Shape.H
		l := [][2]int{{-1, 1}, {-1, 2}, {0, 0}, {0, -1}, {0, h + 1}, {1, h}, {h, 1}, {h, 0}, {h + 1, -1}, {h + 1, 1}, {-2, 3}, {2, -1}}
		for _, x := range wild() {
			l = append(l, [2]int{x, 1}, [2]int{0, x}, [2]int{1, x}, [2]int{h - 1, x}, [2]int{x, x}, [2]int{x, -x})
		}
		// both together are below 0, or within, when they wrap round
		l = append(l, [2]int{math.MaxInt, 2}, [2]int{2, math.MaxInt}, [2]int{math.MinInt, math.MaxInt}, [2]int{math.MinInt, math.MinInt})
		for _, x := range l {
			expectNeeds(t, s.name, s.n, s.in, x[0], x[1], [2][2]int{}, api.ErrArg)
		}
	}
}

// wrong are nodes that may not be, of a value of 5 by 4 by 3 over 6, and graph.Value's error.
func wrong() map[string]struct {
	n  api.Node
	in []api.Value
	e  api.Errno
} {
	type row = struct {
		n  api.Node
		in []api.Value
		e  api.Errno
	}
	v := value(5, 4, 3, 6)
	relu := api.Node{Op: api.OpRelu, Mul: 1, Zero: 6}
	return map[string]row{
		"nothing":           {api.Node{}, nil, api.ErrNode},
		"no op":             {api.Node{Op: 13, Mul: 1}, one(v), api.ErrNode},
		"an op below 0":     {api.Node{Op: -1, Mul: 1}, one(v), api.ErrNode},
		"no value":          {relu, nil, api.ErrNode},
		"two values":        {relu, []api.Value{v, v}, api.ErrNode},
		"three values":      {api.Node{Op: api.OpAdd, Mul: 1}, []api.Value{v, v, v}, api.ErrNode},
		"no Mul":            {api.Node{Op: api.OpRelu, Zero: 6}, one(v), api.ErrNode},
		"another Zero":      {api.Node{Op: api.OpRelu, Mul: 1}, one(v), api.ErrNode},
		"a wild window":     {api.Node{Op: api.OpMax, K: math.MaxInt, Stride: math.MinInt, Mul: 1, Zero: 6}, one(v), api.ErrNode},
		"a wrong value":     {relu, one(value(0, 4, 3, 6)), api.ErrShape},
		"a wild value":      {relu, one(value(math.MaxInt, math.MinInt, 3, 6)), api.ErrShape},
		"too wide a window": {api.Node{Op: api.OpMax, K: 3, Stride: 1, Mul: 1}, one(value(2, 4, 3, 0)), api.ErrShape},
		"unlike values":     {api.Node{Op: api.OpAdd, Mul: 1}, []api.Value{v, value(5, 4, 2, 6)}, api.ErrShape},
		"no weights":        {api.Node{Op: api.OpTable, Mul: 1}, one(v), api.ErrWeights},
		"no B":              {api.Node{Op: api.OpFull, Out: 1, Mul: 1, W: make([]int8, 60)}, one(v), api.ErrWeights},
		"weights too many":  {api.Node{Op: api.OpRelu, Mul: 1, Zero: 6, W: make([]int8, 1)}, one(v), api.ErrWeights},
	}
}

// What is wrong with the node is told ahead of what is wrong with rows, windows and numbers.
func TestNodesThatMayNotBe(t *testing.T) {
	for name, x := range wrong() {
		for _, first := range append(wild(), -1, 0, 1, 99) {
			expectNeeds(t, name, x.n, x.in, first, 1, [2][2]int{}, x.e)
			expectNeeds(t, name, x.n, x.in, 0, first, [2][2]int{}, x.e)
			for _, w := range []api.Window{{}, {Have: 5, V: make([]int8, 60)}, {Base: first, Have: first}} {
				if l, e := Row(x.n, x.in, [2]api.Window{w, w}, first); len(l) != 0 || e != x.e {
					t.Errorf("%s: Row %v, %d, not %d", name, l, e, x.e)
				}
			}
		}
		for _, l := range [][]int8{nil, make([]int8, 60), make([]int8, 61)} {
			if l, e := All(x.n, x.in, [2][]int8{l, l}); len(l) != 0 || e != x.e {
				t.Errorf("%s: All %v, %d, not %d", name, l, e, x.e)
			}
		}
	}
}
