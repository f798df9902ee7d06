package graph

import (
	"math"
	"slices"
	"testing"

	"quilt/api"
	"quilt/shape"
)

// wild are numbers far out: sums and products of them may wrap round.
func wild() []int {
	return []int{math.MinInt, math.MinInt + 1, math.MinInt / 2, -1 << 32, 1 << 32, math.MaxInt / 2, math.MaxInt - 1, math.MaxInt}
}

func value(h, w, c, zero int) api.Value {
	return api.Value{Shape: api.Shape{H: h, W: w, C: c}, Zero: zero}
}

func weights(n int) []int8 { return make([]int8, n) }

func biases(n int) []int32 { return make([]int32, n) }

// sample is a node that may be, of some values, and what it makes.
type sample struct {
	name string
	n    api.Node
	in   []api.Value
	want api.Value
}

// samples are one for each op, with nothing at a bound; what stands for nought is 7 where the op keeps it, else 5 of the node alone.
func samples() []sample {
	a := value(5, 4, 3, 7)
	return []sample{
		{"OpConv", api.Node{Op: api.OpConv, K: 3, Stride: 2, Pad: 1, Out: 4, Mul: 9, Shift: 4, Zero: 5, W: weights(108), B: biases(4)}, []api.Value{a}, value(3, 2, 4, 5)},
		{"OpDepth", api.Node{Op: api.OpDepth, K: 2, Stride: 1, Pad: 1, Mul: 9, Shift: 4, Zero: 5, W: weights(12), B: biases(3)}, []api.Value{a}, value(6, 5, 3, 5)},
		{"OpFull", api.Node{Op: api.OpFull, Out: 2, Mul: 9, Shift: 4, Zero: 5, W: weights(120), B: biases(2)}, []api.Value{a}, value(1, 1, 2, 5)},
		{"OpMax", api.Node{Op: api.OpMax, K: 2, Stride: 2, Mul: 9, Shift: 4, Zero: 7}, []api.Value{a}, value(2, 2, 3, 7)},
		{"OpAvg", api.Node{Op: api.OpAvg, K: 3, Stride: 1, Mul: 9, Shift: 4, Zero: 7}, []api.Value{a}, value(3, 2, 3, 7)},
		{"OpAdd", api.Node{Op: api.OpAdd, Mul: 9, Shift: 4, Zero: 5}, []api.Value{a, value(5, 4, 3, -2)}, value(5, 4, 3, 5)},
		{"OpMul", api.Node{Op: api.OpMul, Mul: 9, Shift: 4, Zero: 5}, []api.Value{a, value(5, 4, 3, -2)}, value(5, 4, 3, 5)},
		{"OpRelu", api.Node{Op: api.OpRelu, Mul: 9, Shift: 4, Zero: 7}, []api.Value{a}, a},
		{"OpPad", api.Node{Op: api.OpPad, Pad: 1, Mul: 9, Shift: 4, Zero: 7}, []api.Value{a}, value(7, 6, 3, 7)},
		{"OpConcat", api.Node{Op: api.OpConcat, Mul: 9, Shift: 4, Zero: 7}, []api.Value{a, value(5, 4, 2, 7)}, value(5, 4, 5, 7)},
		{"OpReshape", api.Node{Op: api.OpReshape, To: api.Shape{H: 2, W: 15, C: 2}, Mul: 9, Shift: 4, Zero: 7}, []api.Value{a}, value(2, 15, 2, 7)},
		{"OpTable", api.Node{Op: api.OpTable, Mul: 9, Shift: 4, Zero: 5, W: weights(256)}, []api.Value{a}, value(5, 4, 3, 5)},
	}
}

func sampleOf(op int) sample { return samples()[op-1] }

// keeps are the ops whose Zero is that of their values.
func keeps(op int) bool {
	return slices.Contains([]int{api.OpMax, api.OpAvg, api.OpRelu, api.OpPad, api.OpConcat, api.OpReshape}, op)
}

// expect asks Value, and that beside an error the value is zero.
func expect(t *testing.T, what string, n api.Node, in []api.Value, want api.Errno) {
	t.Helper()
	v, e := Value(n, in)
	if e != want {
		t.Errorf("%s: error %d, not %d", what, e, want)
	}
	if e != api.OK && v != (api.Value{}) {
		t.Errorf("%s: %v beside error %d", what, v, e)
	}
}

// P3.1: what is made

func TestValueOfEachOp(t *testing.T) {
	for i, s := range samples() {
		if s.n.Op != i+1 {
			t.Fatalf("%s is op %d, not %d", s.name, s.n.Op, i+1)
		}
		if v, e := Value(s.n, s.in); v != s.want || e != api.OK {
			t.Errorf("%s: %v, %d, not %v", s.name, v, e, s.want)
		}
	}
}

func TestValueOfWindows(t *testing.T) {
	type row struct {
		op, k, stride, pad, out int
		in, want                api.Shape
	}
	for _, x := range []row{
		{api.OpMax, 2, 2, 0, 0, api.Shape{H: 5, W: 4, C: 3}, api.Shape{H: 2, W: 2, C: 3}},
		{api.OpMax, 1, 1, 0, 0, api.Shape{H: 1, W: 1, C: 1}, api.Shape{H: 1, W: 1, C: 1}},
		{api.OpMax, 3, 2, 0, 0, api.Shape{H: 16, W: 3, C: 8}, api.Shape{H: 7, W: 1, C: 8}},
		{api.OpAvg, 1, 2, 0, 0, api.Shape{H: 16, W: 15, C: 2}, api.Shape{H: 8, W: 8, C: 2}},
		{api.OpConv, 1, 1, 0, 1, api.Shape{H: 16, W: 16, C: 8}, api.Shape{H: 16, W: 16, C: 1}},
		{api.OpConv, 1, 2, 0, 8, api.Shape{H: 16, W: 1, C: 1}, api.Shape{H: 8, W: 1, C: 8}},
		{api.OpConv, 3, 1, 1, 8, api.Shape{H: 16, W: 1, C: 8}, api.Shape{H: 16, W: 1, C: 8}},
		{api.OpConv, 2, 1, 1, 2, api.Shape{H: 15, W: 1, C: 3}, api.Shape{H: 16, W: 2, C: 2}},
		{api.OpConv, 2, 2, 1, 3, api.Shape{H: 16, W: 15, C: 5}, api.Shape{H: 9, W: 8, C: 3}},
		{api.OpDepth, 3, 2, 1, 0, api.Shape{H: 1, W: 16, C: 8}, api.Shape{H: 1, W: 8, C: 8}},
		{api.OpDepth, 3, 1, 0, 0, api.Shape{H: 3, W: 5, C: 1}, api.Shape{H: 1, W: 3, C: 1}},
	} {
		n := api.Node{Op: x.op, K: x.k, Stride: x.stride, Pad: x.pad, Out: x.out, Mul: 1}
		switch x.op {
		case api.OpConv:
			n.W, n.B = weights(x.k*x.k*x.in.C*x.out), biases(x.out)
		case api.OpDepth:
			n.W, n.B = weights(x.k*x.k*x.in.C), biases(x.in.C)
		}
		if v, e := Value(n, []api.Value{{Shape: x.in}}); v.Shape != x.want || v.Zero != 0 || e != api.OK {
			t.Errorf("%v: %v, %d", x, v, e)
		}
	}
}

// The ways to lay the same numbers out anew, and all of the greatest value at once.
func TestValueOfWholeValues(t *testing.T) {
	full := api.Node{Op: api.OpFull, Out: 8, Mul: 1, W: weights(2048 * 8), B: biases(8)}
	if v, e := Value(full, []api.Value{value(16, 16, 8, 0)}); v != value(1, 1, 8, 0) || e != api.OK {
		t.Errorf("OpFull of the greatest: %v, %d", v, e)
	}
	for _, to := range []api.Shape{{H: 16, W: 1, C: 1}, {H: 1, W: 16, C: 1}, {H: 2, W: 1, C: 8}, {H: 4, W: 4, C: 1}, {H: 2, W: 2, C: 4}, {H: 1, W: 2, C: 8}} {
		n := api.Node{Op: api.OpReshape, To: to, Mul: 1, Zero: -3}
		if v, e := Value(n, []api.Value{value(2, 4, 2, -3)}); v.Shape != to || v.Zero != -3 || e != api.OK {
			t.Errorf("OpReshape to %v: %v, %d", to, v, e)
		}
	}
}

// P3.1: ErrNode

func TestOpThatIsNone(t *testing.T) {
	in := sampleOf(api.OpRelu).in
	for _, op := range append(wild(), -1, 0, 13, 14, 255) {
		for many := range 3 {
			expect(t, "no op", api.Node{Op: op, Mul: 1, Zero: 7}, slices.Repeat(in, many), api.ErrNode)
		}
	}
}

func TestHowManyValues(t *testing.T) {
	for _, s := range samples() {
		right := 1
		if slices.Contains([]int{api.OpAdd, api.OpMul, api.OpConcat}, s.n.Op) {
			right = 2
		}
		for many := range 5 {
			want := api.ErrNode
			if many == right {
				want = api.OK
			}
			expect(t, s.name, s.n, slices.Repeat(s.in[:1], many), want)
		}
		expect(t, s.name+" of nil", s.n, nil, api.ErrNode)
	}
}

func TestScaleOfANode(t *testing.T) {
	type row struct {
		mul, shift, zero int
		want             api.Errno
	}
	rows := []row{
		{1, 0, 0, api.OK}, {api.MaxMul, 31, 0, api.OK}, {1, 0, -128, api.OK}, {1, 0, 127, api.OK},
		{0, 0, 0, api.ErrNode}, {-1, 0, 0, api.ErrNode}, {1 << 15, 0, 0, api.ErrNode},
		{1, -1, 0, api.ErrNode}, {1, 32, 0, api.ErrNode},
		{1, 0, -129, api.ErrNode}, {1, 0, 128, api.ErrNode},
	}
	for _, x := range wild() {
		rows = append(rows, row{x, 0, 0, api.ErrNode}, row{1, x, 0, api.ErrNode}, row{1, 0, x, api.ErrNode})
	}
	for _, s := range samples() {
		for _, x := range rows {
			n, in := s.n, slices.Clone(s.in)
			n.Mul, n.Shift, n.Zero = x.mul, x.shift, x.zero
			for i := range in {
				in[i].Zero = x.zero
			}
			expect(t, s.name, n, in, x.want)
		}
	}
}

// Of an op that keeps what stands for nought, it is that of each of its values; of others it is their own.
func TestZeroOfANode(t *testing.T) {
	for _, s := range samples() {
		for i := range s.in {
			for _, zero := range []int{6, 8, -7, 0} {
				in := slices.Clone(s.in)
				in[i].Zero = zero
				want := api.OK
				if keeps(s.n.Op) {
					want = api.ErrNode
				}
				expect(t, s.name, s.n, in, want)
			}
		}
	}
}

// setting is one of the four of a node that an op may have, by its number.
func setting(n *api.Node, i int) *int {
	return []*int{&n.K, &n.Stride, &n.Pad, &n.Out}[i]
}

// The least and the greatest of each setting of each op: K, Stride, Pad, Out.
func settings(op int) [4][2]int {
	switch op {
	case api.OpConv:
		return [4][2]int{{1, 3}, {1, 2}, {0, 1}, {1, 8}}
	case api.OpDepth:
		return [4][2]int{{1, 3}, {1, 2}, {0, 1}, {0, 0}}
	case api.OpFull:
		return [4][2]int{{0, 0}, {0, 0}, {0, 0}, {1, 8}}
	case api.OpMax, api.OpAvg:
		return [4][2]int{{1, 3}, {1, 2}, {0, 0}, {0, 0}}
	case api.OpPad:
		return [4][2]int{{0, 0}, {0, 0}, {1, 1}, {0, 0}}
	}
	return [4][2]int{}
}

// fitted gives a node as many weights and B as its settings ask for, if these may be.
func fitted(n api.Node, first api.Shape) api.Node {
	switch n.Op {
	case api.OpConv:
		n.W, n.B = weights(n.K*n.K*first.C*n.Out), biases(n.Out)
	case api.OpDepth:
		n.W, n.B = weights(n.K*n.K*first.C), biases(first.C)
	case api.OpFull:
		n.W, n.B = weights(shape.Size(first)*n.Out), biases(n.Out)
	}
	return n
}

func TestSettingsOfEachOp(t *testing.T) {
	for _, s := range samples() {
		for i, may := range settings(s.n.Op) {
			for x := -2; x <= 10; x++ {
				n := s.n
				*setting(&n, i) = x
				if x < may[0] || x > may[1] {
					expect(t, s.name, n, s.in, api.ErrNode)
					continue
				}
				want := api.OK
				if n.K > 0 && n.Pad >= n.K {
					want = api.ErrNode
				}
				expect(t, s.name, fitted(n, s.in[0].Shape), s.in, want)
			}
			for _, x := range wild() {
				n := s.n
				*setting(&n, i) = x
				expect(t, s.name+" far out", n, s.in, api.ErrNode)
			}
		}
	}
}

func TestPadIsBelowK(t *testing.T) {
	for _, op := range []int{api.OpConv, api.OpDepth} {
		for _, x := range []struct {
			k, pad int
			want   api.Errno
		}{{1, 0, api.OK}, {1, 1, api.ErrNode}, {2, 1, api.OK}, {3, 1, api.OK}, {2, 2, api.ErrNode}, {3, 2, api.ErrNode}} {
			s := sampleOf(op)
			s.n.K, s.n.Pad = x.k, x.pad
			expect(t, s.name, fitted(s.n, s.in[0].Shape), s.in, x.want)
		}
	}
}

func TestToIsOfOpReshapeAlone(t *testing.T) {
	for _, s := range samples() {
		if s.n.Op == api.OpReshape {
			continue
		}
		for _, to := range []api.Shape{{H: 1}, {W: 1}, {C: 1}, {H: -1}, s.in[0].Shape, s.want.Shape} {
			s.n.To = to
			expect(t, s.name, s.n, s.in, api.ErrNode)
		}
	}
}

// P3.1: ErrShape

func TestShapesOfValues(t *testing.T) {
	wrong := []api.Shape{{}, {H: 0, W: 4, C: 3}, {H: 5, W: 0, C: 3}, {H: 5, W: 4, C: 0}, {H: 17, W: 4, C: 3}, {H: 5, W: 17, C: 3}, {H: 5, W: 4, C: 9}, {H: -5, W: -4, C: 3}}
	for _, x := range wild() {
		wrong = append(wrong, api.Shape{H: x, W: 4, C: 3}, api.Shape{H: 5, W: x, C: 3}, api.Shape{H: 5, W: 4, C: x}, api.Shape{H: x, W: x, C: x})
	}
	for _, s := range samples() {
		for _, bad := range wrong {
			for i := range s.in {
				in := slices.Clone(s.in)
				in[i].Shape = bad
				expect(t, s.name, s.n, in, api.ErrShape)
			}
			in := slices.Clone(s.in)
			for i := range in {
				in[i].Shape = bad
			}
			expect(t, s.name+" of wrong shapes alone", s.n, in, api.ErrShape)
		}
	}
}

// Sides that have the right product together, but not one by one, are no shape.
func TestShapesOfOpReshape(t *testing.T) {
	s := sampleOf(api.OpReshape)
	for _, to := range []api.Shape{{}, {H: 2, W: 15, C: 1}, {H: 5, W: 4, C: 4}, {H: -5, W: -4, C: 3}, {H: 5, W: -4, C: -3}, {H: 60, W: 1, C: 1}, {H: 1, W: 60, C: 1}, {H: 2, W: 3, C: 10}, {H: 20, W: 3, C: 1}, {H: 1, W: 1, C: 60}, {H: math.MaxInt, W: 1, C: 1}, {H: math.MinInt, W: 15, C: 4}} {
		s.n.To = to
		expect(t, "OpReshape", s.n, s.in, api.ErrShape)
	}
}

func TestShapesThatDoNotGoTogether(t *testing.T) {
	type row struct {
		a, b api.Shape
		want api.Errno
	}
	same, h, w, c := api.Shape{H: 5, W: 4, C: 3}, api.Shape{H: 4, W: 4, C: 3}, api.Shape{H: 5, W: 5, C: 3}, api.Shape{H: 5, W: 4, C: 2}
	ask := func(op int, rows []row) {
		s := sampleOf(op)
		for _, x := range rows {
			expect(t, s.name, s.n, []api.Value{{Shape: x.a, Zero: s.n.Zero}, {Shape: x.b, Zero: s.n.Zero}}, x.want)
			expect(t, s.name+" the other way round", s.n, []api.Value{{Shape: x.b, Zero: s.n.Zero}, {Shape: x.a, Zero: s.n.Zero}}, x.want)
		}
	}
	for _, op := range []int{api.OpAdd, api.OpMul} {
		ask(op, []row{{same, same, api.OK}, {same, h, api.ErrShape}, {same, w, api.ErrShape}, {same, c, api.ErrShape}, {same, api.Shape{H: 4, W: 5, C: 3}, api.ErrShape}})
	}
	ask(api.OpConcat, []row{
		{same, same, api.OK}, {same, h, api.ErrShape}, {same, w, api.ErrShape}, {same, c, api.OK}, {h, w, api.ErrShape},
		{api.Shape{H: 16, W: 16, C: 7}, api.Shape{H: 16, W: 16, C: 1}, api.OK}, {api.Shape{H: 5, W: 4, C: 4}, api.Shape{H: 5, W: 4, C: 4}, api.OK},
		{api.Shape{H: 5, W: 4, C: 8}, api.Shape{H: 5, W: 4, C: 1}, api.ErrShape}, {api.Shape{H: 5, W: 4, C: 5}, api.Shape{H: 5, W: 4, C: 4}, api.ErrShape}, {api.Shape{H: 5, W: 4, C: 8}, api.Shape{H: 5, W: 4, C: 8}, api.ErrShape},
	})
}

func TestShapesThatAreMade(t *testing.T) {
	type row struct {
		n    api.Node
		h, w int
		want api.Errno
	}
	for _, x := range []row{
		// windows that are wider than a value with its padding
		{api.Node{Op: api.OpMax, K: 3, Stride: 1}, 3, 2, api.ErrShape}, {api.Node{Op: api.OpMax, K: 3, Stride: 1}, 2, 3, api.ErrShape}, {api.Node{Op: api.OpAvg, K: 2, Stride: 2}, 1, 9, api.ErrShape}, {api.Node{Op: api.OpAvg, K: 2, Stride: 2}, 2, 2, api.OK},
		{api.Node{Op: api.OpConv, K: 3, Stride: 2, Out: 1}, 2, 9, api.ErrShape}, {api.Node{Op: api.OpConv, K: 3, Stride: 2, Out: 1}, 9, 2, api.ErrShape}, {api.Node{Op: api.OpConv, K: 3, Stride: 2, Pad: 1, Out: 1}, 1, 1, api.OK},
		{api.Node{Op: api.OpDepth, K: 2, Stride: 1}, 1, 9, api.ErrShape}, {api.Node{Op: api.OpDepth, K: 2, Stride: 1}, 9, 1, api.ErrShape}, {api.Node{Op: api.OpDepth, K: 2, Stride: 1, Pad: 1}, 1, 1, api.OK},
		// one row, or one column, more than may be
		{api.Node{Op: api.OpConv, K: 2, Stride: 1, Pad: 1, Out: 1}, 16, 3, api.ErrShape}, {api.Node{Op: api.OpConv, K: 2, Stride: 1, Pad: 1, Out: 1}, 3, 16, api.ErrShape}, {api.Node{Op: api.OpConv, K: 2, Stride: 1, Pad: 1, Out: 1}, 15, 15, api.OK},
		{api.Node{Op: api.OpDepth, K: 2, Stride: 1, Pad: 1}, 16, 3, api.ErrShape}, {api.Node{Op: api.OpDepth, K: 2, Stride: 1, Pad: 1}, 3, 16, api.ErrShape},
		{api.Node{Op: api.OpPad, Pad: 1}, 14, 14, api.OK}, {api.Node{Op: api.OpPad, Pad: 1}, 15, 14, api.ErrShape}, {api.Node{Op: api.OpPad, Pad: 1}, 14, 15, api.ErrShape}, {api.Node{Op: api.OpPad, Pad: 1}, 16, 16, api.ErrShape},
	} {
		in := value(x.h, x.w, 2, 0)
		x.n.Mul = 1
		expect(t, "what is made", fitted(x.n, in.Shape), []api.Value{in}, x.want)
	}
}

// P3.1: ErrWeights

func TestHowManyWeights(t *testing.T) {
	for _, s := range samples() {
		w, b := len(s.n.W), len(s.n.B)
		for _, by := range []int{-w, -2, -1, 1, 2, 256, w} {
			if by == 0 || w+by < 0 {
				continue
			}
			n := s.n
			n.W = weights(w + by)
			expect(t, s.name+" weights", n, s.in, api.ErrWeights)
		}
		for _, by := range []int{-b, -2, -1, 1, 2, b} {
			if by == 0 || b+by < 0 {
				continue
			}
			n := s.n
			n.B = biases(b + by)
			expect(t, s.name+" B", n, s.in, api.ErrWeights)
		}
		// An empty list is as good as none.
		if w == 0 {
			s.n.W = []int8{}
		}
		if b == 0 {
			s.n.B = []int32{}
		}
		expect(t, s.name+" with empty lists", s.n, s.in, api.OK)
	}
}

func TestEachBIsWithinBounds(t *testing.T) {
	for _, op := range []int{api.OpConv, api.OpDepth, api.OpFull} {
		for i := range sampleOf(op).n.B {
			for _, x := range []struct {
				b    int32
				want api.Errno
			}{
				{1, api.OK}, {-1, api.OK}, {1 << 24, api.OK}, {-1 << 24, api.OK},
				{1<<24 + 1, api.ErrWeights}, {-1<<24 - 1, api.ErrWeights}, {math.MaxInt32, api.ErrWeights}, {math.MinInt32, api.ErrWeights},
			} {
				s := sampleOf(op)
				s.n.B[i] = x.b
				expect(t, s.name, s.n, s.in, x.want)
			}
		}
	}
}

func TestWeightsMayBeAny(t *testing.T) {
	for _, op := range []int{api.OpConv, api.OpDepth, api.OpFull, api.OpTable} {
		s := sampleOf(op)
		for i := range s.n.W {
			s.n.W[i] = int8(i * 37)
		}
		expect(t, s.name, s.n, s.in, api.OK)
	}
}

// P3.1: which error where several hold

// spoilt has each of the three wrong that is asked for: the node, the shapes, the weights.
func spoilt(s sample, node, shapes, lists bool) (api.Node, []api.Value) {
	n, in := s.n, slices.Clone(s.in)
	if node {
		n.Mul = 0
	}
	if shapes {
		in[len(in)-1].Shape.H = 17
	}
	if lists {
		n.B = append(slices.Clone(n.B), 1<<24+1)
	}
	return n, in
}

func TestOrderOfErrors(t *testing.T) {
	for _, s := range samples() {
		for mask := range 8 {
			node, shapes, lists := mask&4 != 0, mask&2 != 0, mask&1 != 0
			want := api.OK
			switch {
			case node:
				want = api.ErrNode
			case shapes:
				want = api.ErrShape
			case lists:
				want = api.ErrWeights
			}
			n, in := spoilt(s, node, shapes, lists)
			expect(t, s.name, n, in, want)
		}
	}
}

// Each thing that is ErrNode comes ahead of each that is ErrShape, and that ahead of weights.
func TestOrderOfEachError(t *testing.T) {
	bad := value(0, 0, 0, 7)
	for _, s := range samples() {
		wrongs := []func(n *api.Node){
			func(n *api.Node) { n.Op = 0 }, func(n *api.Node) { n.Mul = -1 }, func(n *api.Node) { n.Shift = 32 }, func(n *api.Node) { n.Zero = 200 },
			func(n *api.Node) { n.K = 4 }, func(n *api.Node) { n.Stride = 3 }, func(n *api.Node) { n.Pad = 2 }, func(n *api.Node) { n.Out = 9 },
		}
		if s.n.Op != api.OpReshape {
			wrongs = append(wrongs, func(n *api.Node) { n.To.C = 9 })
		}
		if keeps(s.n.Op) {
			wrongs = append(wrongs, func(n *api.Node) { n.Zero = 6 })
		}
		for i, wrong := range wrongs {
			n := s.n
			n.W = weights(3)
			wrong(&n)
			expect(t, s.name+" wrong at "+string(rune('a'+i)), n, slices.Repeat([]api.Value{bad}, len(s.in)), api.ErrNode)
		}
		expect(t, s.name+" of none", s.n, nil, api.ErrNode)
		expect(t, s.name+" of three", s.n, []api.Value{bad, bad, bad}, api.ErrNode)
	}
	made := []sample{
		{n: api.Node{Op: api.OpMax, K: 3, Stride: 1, Mul: 1, W: weights(1)}, in: []api.Value{value(2, 2, 1, 0)}},
		{n: api.Node{Op: api.OpConv, K: 3, Stride: 1, Out: 1, Mul: 1}, in: []api.Value{value(2, 2, 1, 0)}},
		{n: api.Node{Op: api.OpAdd, Mul: 1, W: weights(1)}, in: []api.Value{value(2, 2, 1, 0), value(2, 1, 1, 0)}},
		{n: api.Node{Op: api.OpPad, Pad: 1, Mul: 1, B: biases(1)}, in: []api.Value{value(15, 2, 1, 0)}},
		{n: api.Node{Op: api.OpConcat, Mul: 1, B: biases(1)}, in: []api.Value{value(2, 2, 5, 0), value(2, 2, 4, 0)}},
		{n: api.Node{Op: api.OpReshape, To: api.Shape{H: 3, W: 1, C: 1}, Mul: 1, W: weights(1)}, in: []api.Value{value(2, 2, 1, 0)}},
	}
	for _, s := range made {
		expect(t, "shape ahead of weights", s.n, s.in, api.ErrShape)
	}
	reshape := sampleOf(api.OpReshape)
	reshape.n.To, reshape.n.Zero = api.Shape{}, 6
	expect(t, "Zero ahead of To", reshape.n, reshape.in, api.ErrNode)
	concat := sampleOf(api.OpConcat)
	concat.in[1] = value(4, 4, 2, 6)
	expect(t, "Zero ahead of H", concat.n, concat.in, api.ErrNode)
}

// In is not Value's: what a node is made of are the values that are handed in.
func TestInIsNotLookedAt(t *testing.T) {
	for _, s := range samples() {
		for _, in := range [][]int{nil, {0}, {-1, 99, math.MaxInt}} {
			s.n.In = in
			expect(t, s.name, s.n, s.in, api.OK)
		}
	}
}

// P3.3: whatever may be made, may be

func TestWhatIsMadeMayBe(t *testing.T) {
	sides := []int{1, 2, 3, 4, 8, 14, 15, 16}
	for _, s := range samples() {
		for _, h := range sides {
			for _, w := range sides {
				for c := 1; c <= 8; c++ {
					in := slices.Repeat([]api.Value{value(h, w, c, 7)}, len(s.in))
					makesOrTells(t, s, in)
				}
			}
		}
	}
}

// makesOrTells goes through all settings that the op may have, with weights that fit.
func makesOrTells(t *testing.T, s sample, in []api.Value) {
	may := settings(s.n.Op)
	n := s.n
	for n.K = may[0][0]; n.K <= may[0][1]; n.K++ {
		for n.Stride = may[1][0]; n.Stride <= may[1][1]; n.Stride++ {
			for n.Pad = may[2][0]; n.Pad <= may[2][1]; n.Pad++ {
				for n.Out = may[3][0]; n.Out <= may[3][1]; n.Out += 7 {
					v, e := Value(fitted(n, in[0].Shape), in)
					mayBe := e == api.OK && shape.May(v.Shape) == api.OK && v.Zero == n.Zero
					none := e == api.ErrShape || e == api.ErrNode && n.K > 0 && n.Pad >= n.K
					if !mayBe && !(none && v == api.Value{}) {
						t.Fatalf("%s of %v: %v, %d", s.name, in, v, e)
					}
				}
			}
		}
	}
}
