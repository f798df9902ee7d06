package kern

import (
	"slices"
	"testing"

	"quilt/api"
)

// P5.1

// numbers is a node, its values and their numbers, and what is made of them, worked out by hand.
type numbers struct {
	name string
	n    api.Node
	in   []api.Value
	a, b []int8
	want []int8
}

func (x numbers) expect(t *testing.T) {
	t.Helper()
	if got, e := All(x.n, x.in, [2][]int8{x.a, x.b}); e != api.OK || !slices.Equal(got, x.want) {
		t.Errorf("%s: %v, %d, not %v", x.name, got, e, x.want)
	}
}

func one(v api.Value) []api.Value { return []api.Value{v} }

func TestConv(t *testing.T) {
	small := api.Node{Op: api.OpConv, K: 1, Stride: 1, Out: 2, Mul: 3, Shift: 1, Zero: -2, W: []int8{1, 2, 3, -4}, B: []int32{10, -1}}
	frame := api.Node{Op: api.OpConv, K: 2, Stride: 1, Pad: 1, Out: 1, Mul: 1, Shift: 1, W: []int8{1, 3, 9, 27}, B: []int32{0}}
	stride := frame
	stride.Stride = 2
	far := api.Node{Op: api.OpConv, K: 3, Stride: 2, Pad: 1, Out: 1, Mul: 1, W: []int8{1, 2, 3, 4, 5, 6, 7, 8, 9}, B: []int32{-100}}
	// Each weight of two rows, two columns, two channels and two that come out is looked at once, by a number of its own.
	deep := api.Node{Op: api.OpConv, K: 2, Stride: 1, Out: 2, Mul: 1, Zero: 1, W: []int8{1, 2, 3, 4, 5, 6, 7, 8, 8, 7, 6, 5, 4, 3, 2, 1}, B: []int32{1, 2}}
	for _, x := range []numbers{
		// (3, -1) and (5, 1) over 1: 10 + 2 - 4, -1 + 6 + 8; 10 + 4 + 0, -1 + 12 + 0; each times 3, halved, less 2
		{"two channels", small, one(value(1, 2, 2, 1)), []int8{3, -1, 5, 1}, nil, []int8{10, 18, 19, 15}},
		{"a frame", frame, one(value(2, 2, 1, 0)), []int8{1, 2, 3, 4}, nil, []int8{14, 32, 9, 42, 71, 19, 5, 8, 2}},
		// What is beyond stands for nought, whatever number that is.
		{"a frame over -5", frame, one(value(2, 2, 1, -5)), []int8{-4, -3, -2, -1}, nil, []int8{14, 32, 9, 42, 71, 19, 5, 8, 2}},
		{"a frame, by two", stride, one(value(2, 2, 1, 0)), []int8{1, 2, 3, 4}, nil, []int8{14, 9, 5, 2}},
		// (0, 0): 5*1+6*2+8*4+9*5; (0, 1): 4*2+5*3+7*5+8*6; (1, 0): 2*4+3*5+5*7+6*8; (1, 1): 1*5+2*6+4*8+5*9; each less 100
		{"three by three, by two", far, one(value(3, 3, 1, 0)), []int8{1, 2, 3, 4, 5, 6, 7, 8, 9}, nil, []int8{94 - 100, 106 - 100, 106 - 100, 94 - 100}},
		{"beside one number", far, one(value(1, 1, 1, 0)), []int8{11}, nil, []int8{55 - 100}},
		{"weights in order", deep, one(value(2, 2, 2, 0)), []int8{1, 0, 0, 1, 2, 0, 0, 3}, nil, []int8{1 + 1 + 1 + 4 + 10 + 24, 1 + 2 + 8 + 5 + 8 + 3}},
	} {
		x.expect(t)
	}
}

func TestDepth(t *testing.T) {
	flat := api.Node{Op: api.OpDepth, K: 2, Stride: 1, Mul: 1, W: []int8{1, 2, 3, 4, -1, 0, 1, 2}, B: []int32{5, -5}}
	frame := flat
	frame.Pad, frame.Stride = 1, 2
	for _, x := range []numbers{
		{"a channel by itself", flat, one(value(2, 2, 2, 0)), []int8{1, 10, 2, 20, 3, 30, 4, 40}, nil, []int8{35, 95}},
		{"over 1", flat, one(value(2, 2, 2, 1)), []int8{2, 11, 3, 21, 4, 31, 5, 41}, nil, []int8{35, 95}},
		{"a frame, by two", frame, one(value(2, 2, 2, 0)), []int8{1, 10, 2, 20, 3, 30, 4, 40}, nil, []int8{9, 15, 11, 15, 11, -5, 9, -45}},
	} {
		x.expect(t)
	}
}

func TestFull(t *testing.T) {
	n := api.Node{Op: api.OpFull, Out: 2, Mul: 1, Zero: 4, W: []int8{1, 2, 3, 4, -1, -2, -3, -4}, B: []int32{7, 8}}
	most := api.Node{Op: api.OpFull, Out: 1, Mul: api.MaxMul, Zero: 127, W: []int8{127}, B: []int32{api.MaxBias}}
	least := api.Node{Op: api.OpFull, Out: 1, Mul: api.MaxMul, Zero: -128, W: []int8{127}, B: []int32{-api.MaxBias}}
	for _, x := range []numbers{
		{"columns and channels", n, one(value(1, 2, 2, 1)), []int8{1, 2, 3, 4}, nil, []int8{31, -8}},
		{"rows", n, one(value(2, 1, 2, 1)), []int8{1, 2, 3, 4}, nil, []int8{31, -8}},
		{"held at the most", most, one(value(1, 1, 1, -128)), []int8{127}, nil, []int8{127}},
		{"held at the least", least, one(value(1, 1, 1, 127)), []int8{-128}, nil, []int8{-128}},
	} {
		x.expect(t)
	}
}

// Neither Mul nor Shift is anything to the greatest and the mean.
func TestMaxAndAvg(t *testing.T) {
	pool := func(op, k, stride, zero int) api.Node {
		return api.Node{Op: op, K: k, Stride: stride, Mul: 9, Shift: 4, Zero: zero}
	}
	nine := []int8{-9, -8, -7, -6, -5, -4, -3, -2, -1}
	three, two := one(value(3, 3, 1, 0)), one(value(2, 2, 1, 0))
	for _, x := range []numbers{
		{"Max", pool(api.OpMax, 2, 1, 0), three, nine, nil, []int8{-5, -4, -2, -1}},
		{"Max, by two", pool(api.OpMax, 2, 2, 0), three, nine, nil, []int8{-5}},
		{"Max of ones, by two", pool(api.OpMax, 1, 2, 0), three, nine, nil, []int8{-9, -7, -3, -1}},
		{"Max of all", pool(api.OpMax, 3, 1, 0), three, nine, nil, []int8{-1}},
		{"Max of the least", pool(api.OpMax, 2, 1, 5), one(value(2, 2, 1, 5)), []int8{-128, -128, -128, -128}, nil, []int8{-128}},
		{"Max of channels", pool(api.OpMax, 2, 1, -3), one(value(2, 2, 2, -3)), []int8{1, -1, 2, -2, 3, -3, 4, -4}, nil, []int8{4, -1}},
		{"Avg", pool(api.OpAvg, 2, 1, 0), three, nine, nil, []int8{-7, -6, -4, -3}},
		{"Avg, by two", pool(api.OpAvg, 2, 2, 0), three, nine, nil, []int8{-7}},
		{"Avg of ones", pool(api.OpAvg, 1, 1, 0), three, nine, nil, nine},
		{"Avg of all", pool(api.OpAvg, 3, 2, 0), three, nine, nil, []int8{-5}},
		{"Avg of a half", pool(api.OpAvg, 2, 1, 0), two, []int8{1, 0, 1, 0}, nil, []int8{1}},
		{"Avg of less than a half", pool(api.OpAvg, 2, 1, 0), two, []int8{0, 0, 1, 0}, nil, []int8{0}},
		{"Avg of a half below 0", pool(api.OpAvg, 2, 1, 0), two, []int8{-1, 0, -1, 0}, nil, []int8{-1}},
		{"Avg of the least", pool(api.OpAvg, 2, 1, 0), two, []int8{-128, -128, -128, -128}, nil, []int8{-128}},
		{"Avg of the greatest", pool(api.OpAvg, 2, 1, 100), one(value(2, 2, 1, 100)), []int8{127, 127, 127, 127}, nil, []int8{127}},
		{"Avg of channels", pool(api.OpAvg, 2, 1, -3), one(value(2, 2, 2, -3)), []int8{1, -1, 2, -2, 3, -3, 6, -6}, nil, []int8{3, -3}},
	} {
		x.expect(t)
	}
}

func TestAddAndMul(t *testing.T) {
	pair := []api.Value{value(1, 3, 1, 2), value(1, 3, 1, -1)}
	for _, x := range []numbers{
		// 3 and 2, 98 and 101, -130 and -127: halved, of two to the one farther from 0
		{"Add", api.Node{Op: api.OpAdd, Mul: 1, Shift: 1}, pair, []int8{5, 100, -128}, []int8{1, 100, -128}, []int8{3, 100, -128}},
		{"Add and Zero", api.Node{Op: api.OpAdd, Mul: 2, Shift: 3, Zero: 10}, pair, []int8{5, 100, -128}, []int8{1, 100, -128}, []int8{11, 60, -54}},
		{"Mul", api.Node{Op: api.OpMul, Mul: 1}, pair, []int8{5, -1, 4}, []int8{1, 4, 126}, []int8{6, -15, 127}},
		{"Mul and Zero", api.Node{Op: api.OpMul, Mul: 1, Shift: 2, Zero: -7}, pair, []int8{5, -1, 4}, []int8{1, 4, 126}, []int8{-5, -11, 57}},
		{"Mul of the farthest", api.Node{Op: api.OpMul, Mul: 1, Shift: 9}, []api.Value{value(1, 2, 1, 127), value(1, 2, 1, 127)}, []int8{-128, 127}, []int8{-128, -128}, []int8{127, 0}},
	} {
		x.expect(t)
	}
}

func TestReluAndTable(t *testing.T) {
	turned := make([]int8, 256)
	for i := range turned {
		turned[i] = int8(127 - i)
	}
	for _, x := range []numbers{
		{"Relu", api.Node{Op: api.OpRelu, Mul: 1}, one(value(1, 2, 1, 0)), []int8{-1, 2}, nil, []int8{0, 2}},
		{"Relu of -3", api.Node{Op: api.OpRelu, Mul: 9, Shift: 4, Zero: -3}, one(value(2, 3, 1, -3)), []int8{-128, -4, -3, -2, 0, 127}, nil, []int8{-3, -3, -3, -2, 0, 127}},
		{"Relu of the least", api.Node{Op: api.OpRelu, Mul: 1, Zero: -128}, one(value(1, 2, 1, -128)), []int8{-128, 5}, nil, []int8{-128, 5}},
		{"Relu of the greatest", api.Node{Op: api.OpRelu, Mul: 1, Zero: 127}, one(value(1, 2, 1, 127)), []int8{-128, 127}, nil, []int8{127, 127}},
		{"Table", api.Node{Op: api.OpTable, Mul: 9, Shift: 4, Zero: 5, W: turned}, one(value(1, 5, 1, 100)), []int8{-128, -1, 0, 1, 127}, nil, []int8{127, 0, -1, -2, -128}},
	} {
		x.expect(t)
	}
}

func TestPadConcatAndReshape(t *testing.T) {
	pad := func(zero int) api.Node { return api.Node{Op: api.OpPad, Pad: 1, Mul: 9, Shift: 4, Zero: zero} }
	concat := api.Node{Op: api.OpConcat, Mul: 9, Shift: 4}
	reshape := func(h, w, c int) api.Node {
		return api.Node{Op: api.OpReshape, To: api.Shape{H: h, W: w, C: c}, Mul: 9, Shift: 4}
	}
	six := []int8{1, 2, 3, 4, 5, 6}
	for _, x := range []numbers{
		{"Pad", pad(9), one(value(1, 2, 2, 9)), []int8{1, 2, 3, 4}, nil, []int8{9, 9, 9, 9, 9, 9, 9, 9, 9, 9, 1, 2, 3, 4, 9, 9, 9, 9, 9, 9, 9, 9, 9, 9}},
		{"Pad of two rows", pad(-128), one(value(2, 1, 1, -128)), []int8{1, 2}, nil, []int8{-128, -128, -128, -128, 1, -128, -128, 2, -128, -128, -128, -128}},
		{"Concat", concat, []api.Value{value(1, 2, 1, 0), value(1, 2, 2, 0)}, []int8{1, 2}, []int8{3, 4, 5, 6}, []int8{1, 3, 4, 2, 5, 6}},
		{"Concat of rows", concat, []api.Value{value(2, 1, 2, 0), value(2, 1, 1, 0)}, []int8{1, 2, 3, 4}, []int8{5, 6}, []int8{1, 2, 5, 3, 4, 6}},
		{"Reshape", reshape(3, 1, 2), one(value(2, 3, 1, 0)), six, nil, six},
		{"Reshape to a row", reshape(1, 6, 1), one(value(6, 1, 1, 0)), six, nil, six},
		{"Reshape to channels", reshape(1, 1, 6), one(value(3, 2, 1, 0)), six, nil, six},
	} {
		x.expect(t)
	}
}

func TestEachOpAsTheChapterSays(t *testing.T) {
	for _, s := range samples() {
		want, _ := s.rows(0, s.made().Shape.H)
		if got, e := All(s.n, s.in, s.data); e != api.OK || !slices.Equal(got, want) {
			t.Errorf("%s %+v of %v: %v, %d, not %v", s.name, s.n, s.in, got, e, want)
		}
	}
}

// The sums of the greatest node: no number of it may be lost on the way to the end.
func TestTheGreatestSums(t *testing.T) {
	v := value(16, 16, 8, -128)
	data := slices.Repeat([]int8{127}, 2048)
	n := api.Node{Op: api.OpFull, Out: 8, Mul: 1, Shift: 20, Zero: 0, W: slices.Repeat([]int8{127}, 2048*8), B: slices.Repeat([]int32{api.MaxBias}, 8)}
	// 2048 times 255 times 127, and 2^24: 79.25 times 2^20
	numbers{"all of them", n, one(v), data, nil, slices.Repeat([]int8{79}, 8)}.expect(t)
	s := conv(v, 3, 1, 1, 8)
	want, _ := s.rows(0, 16)
	if got, e := All(s.n, s.in, s.data); e != api.OK || !slices.Equal(got, want) {
		t.Errorf("OpConv of the greatest value: %d", e)
	}
}

// graph.Value does not look at what stands for nought in a value of which the op does not keep it: it may be any int.
func TestNoughtOfAnyInt(t *testing.T) {
	for _, zero := range append(wild(), -129, 128) {
		for _, s := range ofEach() {
			for i := range s.in {
				s.in[i].Zero = zero
			}
			made := s.made()
			if made == (api.Value{}) {
				continue
			}
			want, _ := s.rows(0, made.Shape.H)
			if got, e := All(s.n, s.in, s.data); e != api.OK || !slices.Equal(got, want) {
				t.Errorf("%s over %d: %v, %d, not %v", s.name, zero, got, e, want)
			}
		}
	}
}
