package model

import (
	"bytes"
	"math"
	"reflect"
	"slices"
	"testing"

	"quilt/api"
	"quilt/graph"
)

func value(h, w, c, zero int) api.Value {
	return api.Value{Shape: api.Shape{H: h, W: w, C: c}, Zero: zero}
}

// weights are numbers of both sides of 0, from some start on.
func weights(start, many int) []int8 {
	var l []int8
	for i := range many {
		l = append(l, int8(start+i*37))
	}
	return l
}

// alone is a graph of one value that comes out.
func alone(v api.Value) api.Graph {
	return api.Graph{Ins: []api.Value{v}, Outs: []int{0}}
}

// every has each op: what goes in are 0 and 1, the nodes 2 to 13.
func every() api.Graph {
	return api.Graph{
		Ins: []api.Value{value(4, 4, 2, 3), value(16, 1, 8, -128)},
		Nodes: []api.Node{
			{Op: api.OpConv, In: []int{0}, K: 3, Stride: 1, Pad: 1, Out: 2, Mul: 3, Shift: 2, Zero: -4, W: weights(1, 36), B: []int32{1, -1}},
			{Op: api.OpDepth, In: []int{2}, K: 2, Stride: 2, Mul: 258, Shift: 7, Zero: 5, W: weights(2, 8), B: []int32{1 << 24, -1 << 24}},
			{Op: api.OpFull, In: []int{3}, Out: 3, Mul: api.MaxMul, Shift: 31, Zero: 127, W: weights(3, 24), B: []int32{0x123456, -0x123456, 255}},
			{Op: api.OpMax, In: []int{0}, K: 2, Stride: 2, Mul: 1, Zero: 3},
			{Op: api.OpAvg, In: []int{0}, K: 2, Stride: 2, Mul: 1, Zero: 3},
			{Op: api.OpAdd, In: []int{5, 6}, Mul: 256},
			{Op: api.OpMul, In: []int{7, 3}, Mul: 255, Zero: 5},
			{Op: api.OpRelu, In: []int{8}, Mul: 1, Zero: 5},
			{Op: api.OpPad, In: []int{9}, Pad: 1, Mul: 1, Zero: 5},
			{Op: api.OpConcat, In: []int{10, 10}, Mul: 1, Zero: 5},
			{Op: api.OpReshape, In: []int{11}, To: api.Shape{H: 8, W: 4, C: 2}, Mul: 1, Zero: 5},
			{Op: api.OpTable, In: []int{12}, Mul: 1, Zero: -128, W: weights(-128, 256)},
		},
		Outs: []int{13, 4, 0, 13},
	}
}

// small is a graph of which each byte is written out below.
func small() api.Graph {
	return api.Graph{
		Ins: []api.Value{value(1, 2, 2, -1), value(16, 15, 8, 127)},
		Nodes: []api.Node{
			{Op: api.OpFull, In: []int{0}, Out: 1, Mul: 0x1234, Shift: 31, Zero: -128, W: []int8{-128, -1, 0, 127}, B: []int32{-2}},
			{Op: api.OpReshape, In: []int{0}, Mul: api.MaxMul, Zero: -1, To: api.Shape{H: 4, W: 1, C: 1}},
			{Op: api.OpMul, In: []int{1, 1}, Mul: 1, Shift: 9},
			{Op: api.OpConv, In: []int{0}, K: 2, Stride: 2, Pad: 1, Out: 1, Mul: 256, Zero: 2, W: weights(0, 8), B: []int32{0x01000000}},
		},
		Outs: []int{5, 2, 0},
	}
}

func smallBytes() []byte {
	return slices.Concat(
		[]byte{2, 1, 2, 2, 255, 16, 15, 8, 127},
		[]byte{4},
		[]byte{3, 1, 0, 0, 0, 0, 1, 0x12, 0x34, 31, 128, 0, 0, 0, 0, 4, 128, 255, 0, 127, 1, 255, 255, 255, 254},
		[]byte{11, 1, 0, 0, 0, 0, 0, 0x7f, 0xff, 0, 255, 4, 1, 1, 0, 0, 0},
		[]byte{7, 2, 1, 1, 0, 0, 0, 0, 0, 1, 9, 0, 0, 0, 0, 0, 0, 0},
		[]byte{1, 1, 0, 2, 2, 1, 1, 1, 0, 0, 2, 0, 0, 0, 0, 8, 0, 37, 74, 111, 148, 185, 222, 3, 1, 1, 0, 0, 0},
		[]byte{3, 5, 2, 0},
	)
}

// Where some numbers of small stand in its bytes: of its first value, its first node, its second one, and its Outs.
const (
	atIns   = 0
	atH     = 1
	atC     = 3
	atZero  = 4
	atNodes = 9
	atOp    = 10
	atIn    = 11
	atK     = 13
	atMul   = 17
	atShift = 19
	atTo    = 21
	atW     = 24
	atB     = 30
	atTo2   = 46
	atOuts  = 99
)

// put is Put of a graph that may be.
func put(t *testing.T, g api.Graph) []byte {
	t.Helper()
	b, e := Put(g)
	if e != api.OK {
		t.Fatalf("Put tells %d", e)
	}
	return b
}

// comesBack asks that a graph is put, and taken as it was, with and without bytes behind it.
func comesBack(t *testing.T, what string, g api.Graph) {
	t.Helper()
	b := put(t, g)
	if h, e := Whole(b); e != api.OK || !graph.Same(g, h) {
		t.Errorf("%s: Whole: %d, %v", what, e, h)
	}
	for _, behind := range [][]byte{nil, {0}, {255}, b, make([]byte, 1000)} {
		h, n, e := Take(append(slices.Clone(b), behind...))
		if e != api.OK || n != len(b) || !graph.Same(g, h) {
			t.Errorf("%s with %d behind: Take: %d bytes of %d, %d", what, len(behind), n, len(b), e)
		}
	}
}

// taken asks what holds of Take and Whole of any bytes, and tells whether there was a graph.
func taken(t *testing.T, what string, b []byte) bool {
	t.Helper()
	g, n, e := Take(b)
	h, whole := Whole(b)
	if e != api.OK {
		if e != api.ErrCorrupt || n != 0 || !reflect.DeepEqual(g, api.Graph{}) {
			t.Fatalf("%s: Take: %v, %d, %d", what, g, n, e)
		}
		if whole != api.ErrCorrupt || !reflect.DeepEqual(h, api.Graph{}) {
			t.Fatalf("%s: Whole: %v, %d", what, h, whole)
		}
		return false
	}
	if n < 1 || n > len(b) {
		t.Fatalf("%s: Take: %d bytes of %d", what, n, len(b))
	}
	if again, e := Put(g); e != api.OK || !bytes.Equal(again, b[:n]) {
		t.Fatalf("%s: %v taken, %v put, %d", what, b[:n], again, e)
	}
	if n == len(b) && (whole != api.OK || !graph.Same(g, h)) || n < len(b) && (whole != api.ErrCorrupt || !reflect.DeepEqual(h, api.Graph{})) {
		t.Fatalf("%s: Take: %d bytes of %d, but Whole: %d, %v", what, n, len(b), whole, h)
	}
	return true
}

func none(t *testing.T, what string, b []byte) {
	t.Helper()
	if taken(t, what, b) {
		t.Errorf("%s: a graph", what)
	}
}

// P4.1: Put

func TestBytesOfAGraph(t *testing.T) {
	for _, x := range []struct {
		g    api.Graph
		want []byte
	}{
		{alone(value(1, 2, 3, 0)), []byte{1, 1, 2, 3, 0, 0, 1, 0}},
		{alone(value(16, 16, 8, -128)), []byte{1, 16, 16, 8, 128, 0, 1, 0}},
		{api.Graph{Ins: []api.Value{value(3, 2, 1, 1), value(4, 5, 6, -1), value(7, 8, 2, 127), value(9, 10, 3, -2)}, Outs: []int{3, 1, 1, 0}},
			[]byte{4, 3, 2, 1, 1, 4, 5, 6, 255, 7, 8, 2, 127, 9, 10, 3, 254, 0, 4, 3, 1, 1, 0}},
		{small(), smallBytes()},
	} {
		if b := put(t, x.g); !bytes.Equal(b, x.want) {
			t.Errorf("Put of %v: %v, not %v", x.g, b, x.want)
		}
	}
}

func TestBytesOfEachBound(t *testing.T) {
	for x := -128; x <= 127; x++ {
		if b := put(t, alone(value(1, 1, 1, x))); b[atZero] != byte(x) {
			t.Errorf("Zero %d: %d", x, b[atZero])
		}
		g := small()
		g.Nodes[0].W[1] = int8(x)
		if b := put(t, g); b[atW+3] != byte(x) {
			t.Errorf("a weight %d: %d", x, b[atW+3])
		}
	}
	for _, x := range []struct {
		b    int32
		want []byte
	}{
		{0, []byte{0, 0, 0, 0}}, {1, []byte{0, 0, 0, 1}}, {-1, []byte{255, 255, 255, 255}}, {255, []byte{0, 0, 0, 255}}, {-256, []byte{255, 255, 255, 0}},
		{0x123456, []byte{0, 0x12, 0x34, 0x56}}, {-0x123456, []byte{0xff, 0xed, 0xcb, 0xaa}}, {1 << 24, []byte{1, 0, 0, 0}}, {-1 << 24, []byte{255, 0, 0, 0}}, {-1<<24 + 1, []byte{255, 0, 0, 1}},
	} {
		g := small()
		g.Nodes[0].B[0] = x.b
		if b := put(t, g); !bytes.Equal(b[atB+1:atB+5], x.want) {
			t.Errorf("a B of %d: %v, not %v", x.b, b[atB+1:atB+5], x.want)
		}
		comesBack(t, "a B", g)
	}
	for _, x := range []struct {
		mul  int
		want []byte
	}{{1, []byte{0, 1}}, {255, []byte{0, 255}}, {256, []byte{1, 0}}, {0x0102, []byte{1, 2}}, {api.MaxMul, []byte{127, 255}}} {
		g := small()
		g.Nodes[0].Mul = x.mul
		if b := put(t, g); !bytes.Equal(b[atMul:atMul+2], x.want) {
			t.Errorf("Mul %d: %v", x.mul, b[atMul:atMul+2])
		}
		comesBack(t, "a Mul", g)
	}
}

// full is a graph of one OpFull of so many weights: rows times 16 times out.
func full(rows, out int) api.Graph {
	n := api.Node{Op: api.OpFull, In: []int{0}, Out: out, Mul: 1, W: weights(rows, rows*16*out), B: make([]int32, out)}
	return api.Graph{Ins: []api.Value{value(rows, 16, 1, 0)}, Nodes: []api.Node{n}, Outs: []int{1}}
}

func TestHowManyWeights(t *testing.T) {
	for _, x := range []struct {
		rows, out int
		want      []byte
	}{{1, 1, []byte{0, 16}}, {15, 1, []byte{0, 240}}, {16, 1, []byte{1, 0}}, {15, 2, []byte{1, 224}}, {16, 8, []byte{8, 0}}} {
		g := full(x.rows, x.out)
		b := put(t, g)
		// One of Ins, and what a node has ahead of its weights.
		if at := 5 + 1 + 14; !bytes.Equal(b[at:at+2], x.want) {
			t.Errorf("%d rows, %d: %v", x.rows, x.out, b[at:at+2])
		}
		if want := 8 + 14 + 2 + len(g.Nodes[0].W) + 1 + 4*x.out; len(b) != want {
			t.Errorf("%d rows, %d: %d bytes, not %d", x.rows, x.out, len(b), want)
		}
		comesBack(t, "weights", g)
	}
	// As many weights as one graph may have, all of one node.
	g := full(16, 8)
	g.Ins[0].Shape.C = 2
	g.Nodes[0].W = weights(1, 4096)
	if b := put(t, g); b[20] != 16 || b[21] != 0 {
		t.Errorf("4096 weights: %v", b[20:22])
	}
	comesBack(t, "4096 weights", g)
	g.Nodes[0].W = weights(1, 4097)
	if b, e := Put(g); e != api.ErrWeights || b != nil {
		t.Errorf("4097 weights: %d", e)
	}
}

func TestGraphsThatMayNotBe(t *testing.T) {
	for i, change := range []func(g *api.Graph){
		func(g *api.Graph) { *g = api.Graph{} },
		func(g *api.Graph) { g.Ins = nil },
		func(g *api.Graph) { g.Outs = nil },
		func(g *api.Graph) { g.Ins = make([]api.Value, 5) },
		func(g *api.Graph) { g.Nodes = slices.Repeat(g.Nodes, 4) },
		func(g *api.Graph) { g.Nodes = make([]api.Node, 300) },
		func(g *api.Graph) { g.Outs = make([]int, 5) },
		func(g *api.Graph) { g.Outs = []int{-1} },
		func(g *api.Graph) { g.Outs = []int{6} },
		func(g *api.Graph) { g.Outs[0] = 256 },
		func(g *api.Graph) { g.Ins[0].Shape.H = 17 },
		func(g *api.Graph) { g.Ins[0].Shape.H = 257 },
		func(g *api.Graph) { g.Ins[0].Shape.C = math.MinInt },
		func(g *api.Graph) { g.Ins[0].Zero = 128 },
		func(g *api.Graph) { g.Ins[0].Zero = -129 },
		func(g *api.Graph) { g.Ins[0].Zero = 255 },
		func(g *api.Graph) { g.Nodes[0].Op = 0 },
		func(g *api.Graph) { g.Nodes[0].Op = 256 + api.OpFull },
		func(g *api.Graph) { g.Nodes[0].In = nil },
		func(g *api.Graph) { g.Nodes[0].In = []int{2} },
		func(g *api.Graph) { g.Nodes[0].In = []int{256} },
		func(g *api.Graph) { g.Nodes[0].In = make([]int, 257) },
		func(g *api.Graph) { g.Nodes[0].K = 256 },
		func(g *api.Graph) { g.Nodes[0].Mul = 0 },
		func(g *api.Graph) { g.Nodes[0].Mul = 1 << 15 },
		func(g *api.Graph) { g.Nodes[0].Mul = 1<<16 + 1 },
		func(g *api.Graph) { g.Nodes[0].Shift = 32 },
		func(g *api.Graph) { g.Nodes[0].Shift = -1 },
		func(g *api.Graph) { g.Nodes[0].Zero = math.MaxInt },
		func(g *api.Graph) { g.Nodes[0].To.H = 1 },
		func(g *api.Graph) { g.Nodes[0].W = g.Nodes[0].W[:3] },
		func(g *api.Graph) { g.Nodes[0].W = make([]int8, 1<<16+4) },
		func(g *api.Graph) { g.Nodes[0].B = nil },
		func(g *api.Graph) { g.Nodes[0].B = make([]int32, 257) },
		func(g *api.Graph) { g.Nodes[0].B[0] = 1<<24 + 1 },
		func(g *api.Graph) { g.Nodes[0].B[0] = math.MinInt32 },
	} {
		g := small()
		change(&g)
		want := graph.Check(g)
		if want == api.OK {
			t.Fatalf("%d: a graph that may be", i)
		}
		if b, e := Put(g); e != want || b != nil {
			t.Errorf("%d: %d, not %d, and %d bytes", i, e, want, len(b))
		}
	}
}

// P4.2: Take, Whole

func TestTakeAndWhole(t *testing.T) {
	for _, behind := range [][]byte{nil, {0}, {9, 9, 9}, smallBytes()} {
		g, n, e := Take(append(smallBytes(), behind...))
		if e != api.OK || n != len(smallBytes()) || !graph.Same(g, small()) {
			t.Errorf("Take with %d behind: %v, %d, %d", len(behind), g, n, e)
		}
	}
	if g, e := Whole(smallBytes()); e != api.OK || !graph.Same(g, small()) {
		t.Errorf("Whole: %v, %d", g, e)
	}
	g, n, e := Take([]byte{1, 1, 2, 3, 254, 0, 1, 0, 77})
	if e != api.OK || n != 8 || !graph.Same(g, alone(value(1, 2, 3, -2))) {
		t.Errorf("Take of one value: %v, %d, %d", g, n, e)
	}
}

func TestNoBytes(t *testing.T) {
	none(t, "nil", nil)
	none(t, "empty", []byte{})
	for c := range 256 {
		none(t, "one byte", []byte{byte(c)})
	}
	for _, c := range []byte{0, 1, 2, 127, 128, 255} {
		none(t, "one byte again and again", bytes.Repeat([]byte{c}, 5000))
	}
}

// fewBytes are those at bounds, and some between them.
func fewBytes() []byte { return []byte{0, 1, 2, 7, 13, 17, 127, 128, 255} }

// What is cut off stands in the room behind: it is not looked at.
func TestBytesCutAnywhere(t *testing.T) {
	for _, g := range []api.Graph{alone(value(1, 2, 3, 0)), small(), every()} {
		b := put(t, g)
		for i := range b {
			none(t, "cut at the end", b[:i])
			none(t, "cut, without room", bytes.Clone(b[:i]))
		}
		for i := 1; i < len(b); i++ {
			taken(t, "cut at the front", b[i:])
		}
	}
}

func TestOneByteMore(t *testing.T) {
	for _, g := range []api.Graph{alone(value(1, 2, 3, 0)), small(), every()} {
		b := put(t, g)
		for c := range 256 {
			more := append(slices.Clone(b), byte(c))
			if _, n, e := Take(more); e != api.OK || n != len(b) {
				t.Errorf("Take: %d of %d, %d", n, len(b), e)
			}
			if h, e := Whole(more); e != api.ErrCorrupt || !reflect.DeepEqual(h, api.Graph{}) {
				t.Errorf("Whole: %d, %v", e, h)
			}
		}
		for i := range b {
			for _, c := range fewBytes() {
				taken(t, "one between", slices.Insert(slices.Clone(b), i, c))
			}
		}
	}
}

func TestOneByteTurned(t *testing.T) {
	for _, g := range []api.Graph{alone(value(1, 2, 3, 0)), small(), every()} {
		b := put(t, g)
		for i, was := range b {
			for _, c := range append(fewBytes(), was, was^1, was^16, was^128, was+1, was-1) {
				b[i] = c
				there := taken(t, "one turned", b)
				if h, _, _ := Take(b); there && graph.Same(g, h) != (c == was) {
					t.Fatalf("byte %d, %d to %d: the same graph: %v", i, was, c, graph.Same(g, h))
				}
			}
			b[i] = was
		}
	}
}

func TestBytesOfGraphsThatMayNotBe(t *testing.T) {
	for _, x := range []struct {
		what string
		at   int
		wide []byte
	}{
		{"no Ins", atIns, []byte{0}}, {"five Ins", atIns, []byte{5}}, {"one of Ins less", atIns, []byte{1}},
		{"H 0", atH, []byte{0}}, {"H 17", atH, []byte{17}}, {"H 255", atH, []byte{255}}, {"C 0", atC, []byte{0}}, {"C 9", atC, []byte{9}},
		{"Zero unlike", atZero, []byte{1}},
		{"a node more", atNodes, []byte{5}}, {"13 nodes", atNodes, []byte{13}}, {"255 nodes", atNodes, []byte{255}},
		{"no op", atOp, []byte{0}}, {"op 13", atOp, []byte{13}}, {"op 255", atOp, []byte{255}}, {"another op", atOp, []byte{8}},
		{"no In", atIn, []byte{0}}, {"two In", atIn, []byte{2}}, {"255 In", atIn, []byte{255}},
		{"a value behind", atIn + 1, []byte{2}}, {"In 255", atIn + 1, []byte{255}},
		{"K 1", atK, []byte{1}}, {"Stride 1", atK + 1, []byte{1}}, {"Pad 1", atK + 2, []byte{1}}, {"Out 0", atK + 3, []byte{0}}, {"Out 9", atK + 3, []byte{9}}, {"Out 255", atK + 3, []byte{255}},
		{"Mul 0", atMul, []byte{0, 0}}, {"Mul 32768", atMul, []byte{128, 0}}, {"Mul 65535", atMul, []byte{255, 255}},
		{"Shift 32", atShift, []byte{32}}, {"Shift 255", atShift, []byte{255}},
		{"To", atTo, []byte{1}}, {"To's C", atTo + 2, []byte{1}},
		{"no W", atW, []byte{0, 0}}, {"W of 256 more", atW, []byte{1, 4}}, {"W of 65535", atW, []byte{255, 255}}, {"one W less", atW, []byte{0, 3}},
		{"no B", atB, []byte{0}}, {"B of 255", atB, []byte{255}},
		{"a B too great", atB + 1, []byte{1, 0, 0, 1}}, {"the greatest B", atB + 1, []byte{127, 255, 255, 255}}, {"the least B", atB + 1, []byte{128, 0, 0, 0}}, {"a B too small", atB + 1, []byte{254, 255, 255, 255}},
		{"To's H", atTo2, []byte{5}}, {"To's W", atTo2 + 1, []byte{4}},
		{"no Outs", atOuts, []byte{0}}, {"five Outs", atOuts, []byte{5}}, {"an Out that is not there", atOuts + 1, []byte{6}}, {"Out 255", atOuts + 3, []byte{255}},
	} {
		b := smallBytes()
		copy(b[x.at:], x.wide)
		none(t, x.what, b)
		none(t, x.what+" with much behind", append(b, make([]byte, 1<<17)...))
	}
}

func TestBytesOfOtherNumbers(t *testing.T) {
	for _, x := range []struct {
		what   string
		at     int
		wide   []byte
		change func(g *api.Graph)
	}{
		{"H 16", 5, []byte{1}, func(g *api.Graph) { g.Ins[1].Shape.H = 1 }},
		{"Zero", 8, []byte{129}, func(g *api.Graph) { g.Ins[1].Zero = -127 }},
		{"Mul", atMul, []byte{127, 255}, func(g *api.Graph) { g.Nodes[0].Mul = api.MaxMul }},
		{"Shift", atShift, []byte{0}, func(g *api.Graph) { g.Nodes[0].Shift = 0 }},
		{"Zero of a node", atShift + 1, []byte{200}, func(g *api.Graph) { g.Nodes[0].Zero = -56 }},
		{"a weight", atW + 2, []byte{129}, func(g *api.Graph) { g.Nodes[0].W[0] = -127 }},
		{"a B", atB + 1, []byte{1, 0, 0, 0}, func(g *api.Graph) { g.Nodes[0].B[0] = 1 << 24 }},
		{"a B below 0", atB + 1, []byte{255, 0, 0, 0}, func(g *api.Graph) { g.Nodes[0].B[0] = -1 << 24 }},
		{"To", atTo2, []byte{1, 1, 4}, func(g *api.Graph) { g.Nodes[1].To = api.Shape{H: 1, W: 1, C: 4} }},
		{"Outs", atOuts + 1, []byte{4}, func(g *api.Graph) { g.Outs[0] = 4 }},
	} {
		b, want := smallBytes(), small()
		copy(b[x.at:], x.wide)
		x.change(&want)
		if g, e := Whole(b); e != api.OK || !graph.Same(g, want) {
			t.Errorf("%s: %v, %d", x.what, g, e)
		}
	}
}

func TestCountsThatNoBytesStandBehind(t *testing.T) {
	value, node := []byte{1, 1, 1, 0}, []byte{3, 1, 0, 0, 0, 0, 1, 0, 1, 0, 0, 0, 0, 0}
	one := slices.Concat([]byte{1}, value)
	for c := range 256 {
		many := byte(c)
		none(t, "Ins", []byte{many})
		none(t, "Ins, one there", append([]byte{many}, value...))
		none(t, "nodes", append(bytes.Clone(one), many))
		none(t, "nodes, one begun", slices.Concat(one, []byte{many}, node))
		none(t, "In", slices.Concat(one, []byte{1, 3, many}))
		none(t, "weights", slices.Concat(one, []byte{1}, node, []byte{many, 255}))
		none(t, "weights, some there", slices.Concat(one, []byte{1}, node, []byte{many, 1, 0, 0}))
		none(t, "B", slices.Concat(one, []byte{1}, node, []byte{0, 1, 7, many}))
		none(t, "B, half of one there", slices.Concat(one, []byte{1}, node, []byte{0, 1, 7, many, 0, 0}))
		none(t, "Outs", slices.Concat(one, []byte{0, many}))
	}
}
