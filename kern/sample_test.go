package kern

import (
	"math"
	"testing"

	"quilt/api"
	"quilt/graph"
)

// wild are numbers far out: sums and products of them may wrap round.
func wild() []int {
	return []int{math.MinInt, math.MinInt + 1, math.MinInt / 2, -1 << 32, 1 << 32, math.MaxInt / 2, math.MaxInt - 1, math.MaxInt}
}

func value(h, w, c, zero int) api.Value {
	return api.Value{Shape: api.Shape{H: h, W: w, C: c}, Zero: zero}
}

func size(v api.Value) int { return v.Shape.H * v.Shape.W * v.Shape.C }

// spread are numbers of both sides of 0, the same ones for the same seed.
func spread(seed, many int) []int8 {
	l := make([]int8, many)
	state := uint32(seed)*2654435761 + 12345
	for i := range l {
		state = state*1664525 + 1013904223
		l[i] = int8(state >> 24)
	}
	return l
}

func biases(seed, many int) []int32 {
	var l []int32
	for _, x := range spread(seed+1000, many) {
		l = append(l, int32(x)*37)
	}
	return l
}

// sample is a node that may be, the values that it is made of, and numbers of these.
type sample struct {
	name string
	n    api.Node
	in   []api.Value
	data [2][]int8
}

func sampleOf(name string, n api.Node, in ...api.Value) sample {
	s := sample{name: name, n: n, in: in}
	for i, v := range in {
		s.data[i] = spread(17*i+len(name)+size(v), size(v))
	}
	return s
}

func conv(v api.Value, k, stride, pad, out int) sample {
	n := api.Node{Op: api.OpConv, K: k, Stride: stride, Pad: pad, Out: out, Mul: 5, Shift: 9, Zero: 4}
	n.W, n.B = spread(k+out, k*k*v.Shape.C*out), biases(k, out)
	return sampleOf("OpConv", n, v)
}

func depth(v api.Value, k, stride, pad int) sample {
	n := api.Node{Op: api.OpDepth, K: k, Stride: stride, Pad: pad, Mul: 3, Shift: 8, Zero: -9}
	n.W, n.B = spread(k, k*k*v.Shape.C), biases(k, v.Shape.C)
	return sampleOf("OpDepth", n, v)
}

func full(v api.Value, out int) sample {
	n := api.Node{Op: api.OpFull, Out: out, Mul: 2, Shift: 10, Zero: 1}
	n.W, n.B = spread(out, size(v)*out), biases(out, out)
	return sampleOf("OpFull", n, v)
}

// pooled is of OpMax and OpAvg both.
func pooled(name string, op int, v api.Value, k, stride int) sample {
	return sampleOf(name, api.Node{Op: op, K: k, Stride: stride, Mul: 9, Shift: 4, Zero: v.Zero}, v)
}

// plain are the samples of a value that have no windows.
func plain(v api.Value) []sample {
	other := api.Value{Shape: v.Shape, Zero: -11}
	fewer := api.Value{Shape: api.Shape{H: v.Shape.H, W: v.Shape.W, C: 8 - v.Shape.C}, Zero: v.Zero}
	turned := api.Shape{H: v.Shape.W, W: v.Shape.H, C: v.Shape.C}
	l := []sample{
		full(v, 1), full(v, 8),
		sampleOf("OpAdd", api.Node{Op: api.OpAdd, Mul: 3, Shift: 2, Zero: -6}, v, other),
		sampleOf("OpMul", api.Node{Op: api.OpMul, Mul: 7, Shift: 10, Zero: 12}, v, other),
		sampleOf("OpRelu", api.Node{Op: api.OpRelu, Mul: 9, Shift: 4, Zero: v.Zero}, v),
		sampleOf("OpReshape", api.Node{Op: api.OpReshape, To: turned, Mul: 9, Shift: 4, Zero: v.Zero}, v),
		sampleOf("OpTable", api.Node{Op: api.OpTable, Mul: 9, Shift: 4, Zero: -3, W: spread(5, 256)}, v),
	}
	if fewer.Shape.C > 0 {
		l = append(l, sampleOf("OpConcat", api.Node{Op: api.OpConcat, Mul: 9, Shift: 4, Zero: v.Zero}, v, fewer))
	}
	if v.Shape.H <= 14 && v.Shape.W <= 14 {
		l = append(l, sampleOf("OpPad", api.Node{Op: api.OpPad, Pad: 1, Mul: 9, Shift: 4, Zero: v.Zero}, v))
	}
	return l
}

// windowed are the samples of a value with each window that may be over it.
func windowed(v api.Value) []sample {
	var l []sample
	for k := 1; k <= 3; k++ {
		for stride := 1; stride <= 2; stride++ {
			for pad := 0; pad < min(k, 2); pad++ {
				l = append(l, conv(v, k, stride, pad, 1), conv(v, k, stride, pad, 3), depth(v, k, stride, pad))
			}
			l = append(l, pooled("OpMax", api.OpMax, v, k, stride), pooled("OpAvg", api.OpAvg, v, k, stride))
		}
	}
	return l
}

// samples are of all ops, over values of many shapes, all of nodes that may be.
func samples() []sample {
	var l []sample
	for _, v := range []api.Value{
		value(1, 1, 1, 0), value(1, 2, 3, 5), value(2, 1, 8, -128), value(2, 2, 2, 7), value(3, 3, 1, -5),
		value(4, 5, 2, 127), value(5, 4, 3, 6), value(7, 3, 2, -1), value(3, 16, 1, 2), value(16, 2, 2, -64),
	} {
		for _, s := range append(windowed(v), plain(v)...) {
			// A window may be wider than the value, or what it makes taller than a value may be.
			if _, e := graph.Value(s.n, s.in); e == api.OK {
				l = append(l, s)
			}
		}
	}
	return l
}

// ofEach is one sample of each op, by its number, of a value of 5 rows.
func ofEach() map[int]sample {
	v := value(5, 4, 3, 6)
	l := map[int]sample{}
	for _, s := range append(plain(v), conv(v, 3, 2, 1, 4), depth(v, 2, 1, 1), pooled("OpMax", api.OpMax, v, 2, 2), pooled("OpAvg", api.OpAvg, v, 3, 1)) {
		l[s.n.Op] = s
	}
	return l
}

func (s sample) made() api.Value {
	v, _ := graph.Value(s.n, s.in)
	return v
}

// The samples are worth nothing if some op has none.
func TestSamplesAreOfAllOps(t *testing.T) {
	seen := map[int]int{}
	for _, s := range samples() {
		seen[s.n.Op]++
	}
	each := ofEach()
	for op := api.OpConv; op <= api.OpTable; op++ {
		s, there := each[op]
		if seen[op] < 5 || !there || s.made() == (api.Value{}) {
			t.Errorf("op %d: %d samples, one of its own %v", op, seen[op], there)
		}
	}
}
