package region

import (
	"fmt"
	"math"
	"slices"
	"testing"

	"quilt/api"
	"quilt/graph"
	"quilt/isa"
)

// A span's letters: of either memory, read or written.
func r0(from, to int) api.Span { return api.Span{Mem: 0, From: from, To: to} }
func w0(from, to int) api.Span { return api.Span{Mem: 0, From: from, To: to, Write: true} }
func r1(from, to int) api.Span { return api.Span{Mem: 1, From: from, To: to} }
func w1(from, to int) api.Span { return api.Span{Mem: 1, From: from, To: to, Write: true} }

func value(h, w, c, zero int) api.Value {
	return api.Value{Shape: api.Shape{H: h, W: w, C: c}, Zero: zero}
}

// woven is an image of each op, whose values are of unlike rows, sizes and places: value 3 and node i is value 3 and i.
func woven() api.Image {
	return api.Image{
		Graph: api.Graph{
			Ins: []api.Value{value(7, 5, 3, 1), value(4, 3, 2, 0), value(4, 3, 5, 0)},
			Nodes: []api.Node{
				{Op: api.OpConv, In: []int{0}, K: 3, Stride: 2, Pad: 1, Out: 2, Mul: 1, Zero: 9, W: make([]int8, 54), B: make([]int32, 2)}, // 3: 4 by 3 by 2
				{Op: api.OpDepth, In: []int{0}, K: 2, Stride: 1, Mul: 1, W: make([]int8, 12), B: make([]int32, 3)},                         // 4: 6 by 4 by 3
				{Op: api.OpFull, In: []int{4}, Out: 4, Mul: 1, W: make([]int8, 288), B: make([]int32, 4)},                                  // 5: 1 by 1 by 4
				{Op: api.OpMax, In: []int{0}, K: 3, Stride: 2, Mul: 1, Zero: 1},                                                            // 6: 3 by 2 by 3
				{Op: api.OpAvg, In: []int{2}, K: 2, Stride: 1, Mul: 1},                                                                     // 7: 3 by 2 by 5
				{Op: api.OpAdd, In: []int{3, 1}, Mul: 1},                                                                                   // 8: 4 by 3 by 2
				{Op: api.OpMul, In: []int{8, 8}, Mul: 1},                                                                                   // 9: 4 by 3 by 2
				{Op: api.OpRelu, In: []int{0}, Mul: 1, Zero: 1},                                                                            // 10: 7 by 5 by 3
				{Op: api.OpPad, In: []int{2}, Pad: 1, Mul: 1},                                                                              // 11: 6 by 5 by 5
				{Op: api.OpConcat, In: []int{2, 1}, Mul: 1},                                                                                // 12: 4 by 3 by 7
				{Op: api.OpReshape, In: []int{1}, Mul: 1, To: api.Shape{H: 12, W: 2, C: 1}},                                                // 13: 12 by 2 by 1
				{Op: api.OpTable, In: []int{9}, Mul: 1, W: make([]int8, 256)},                                                              // 14: 4 by 3 by 2
			},
			Outs: []int{14, 13, 0},
		},
		Places: []int{0, 200, 300, 1000, 1100, 1200, 1300, 1400, 1500, 1600, 1700, 65386, 2000, 2100, 65512},
	}
}

// wovenShapes are those of its values, written out by hand.
func wovenShapes() []api.Shape {
	return []api.Shape{
		{H: 7, W: 5, C: 3}, {H: 4, W: 3, C: 2}, {H: 4, W: 3, C: 5},
		{H: 4, W: 3, C: 2}, {H: 6, W: 4, C: 3}, {H: 1, W: 1, C: 4}, {H: 3, W: 2, C: 3}, {H: 3, W: 2, C: 5}, {H: 4, W: 3, C: 2},
		{H: 4, W: 3, C: 2}, {H: 7, W: 5, C: 3}, {H: 6, W: 5, C: 5}, {H: 4, W: 3, C: 7}, {H: 12, W: 2, C: 1}, {H: 4, W: 3, C: 2},
	}
}

func TestTheTestsOwnShapes(t *testing.T) {
	values, e := graph.Values(woven().Graph)
	var shapes []api.Shape
	for _, v := range values {
		shapes = append(shapes, v.Shape)
	}
	if e != api.OK || !slices.Equal(shapes, wovenShapes()) {
		t.Errorf("%+v, %d", shapes, e)
	}
}

// with is woven with a change.
func with(change func(im *api.Image)) api.Image {
	im := woven()
	change(&im)
	return im
}

// at is woven with a value at another place.
func at(value, place int) api.Image {
	return with(func(im *api.Image) { im.Places[value] = place })
}

// single is an image of one node, an OpRelu of a value of a shape: 0 goes in and lies at 0, 1 is made and lies behind it.
func single(h, w, c int) api.Image {
	return api.Image{
		Graph:  api.Graph{Ins: []api.Value{value(h, w, c, 0)}, Nodes: []api.Node{{Op: api.OpRelu, In: []int{0}, Mul: 1}}, Outs: []int{1}},
		Places: []int{0, h * w * c},
	}
}

// double is likewise of an OpAdd of two values.
func double(h, w, c int) api.Image {
	n := h * w * c
	return api.Image{
		Graph:  api.Graph{Ins: []api.Value{value(h, w, c, 0), value(h, w, c, 3)}, Nodes: []api.Node{{Op: api.OpAdd, In: []int{0, 1}, Mul: 1}}, Outs: []int{2}},
		Places: []int{0, n, 2 * n},
	}
}

// bare is an image of a graph without nodes.
func bare() api.Image {
	return api.Image{Graph: api.Graph{Ins: []api.Value{value(1, 1, 1, 0)}, Outs: []int{0}}, Places: []int{5}}
}

// A wrong is an image whose graph may not be, and the error that graph.Check has of it.
type wrong struct {
	what string
	im   api.Image
	e    api.Errno
}

func wrongGraphs() []wrong {
	of := func(what string, e api.Errno, change func(g *api.Graph)) wrong {
		return wrong{what, with(func(im *api.Image) { change(&im.Graph) }), e}
	}
	return []wrong{
		{"nothing", api.Image{}, api.ErrValue},
		of("no Outs", api.ErrValue, func(g *api.Graph) { g.Outs = nil }),
		of("an Out of no value", api.ErrValue, func(g *api.Graph) { g.Outs = []int{15} }),
		of("an In of a later value", api.ErrValue, func(g *api.Graph) { g.Nodes[5].In[1] = 8 }),
		of("an In below 0", api.ErrValue, func(g *api.Graph) { g.Nodes[0].In[0] = -1 }),
		of("too many Ins", api.ErrBig, func(g *api.Graph) { g.Ins = make([]api.Value, 5) }),
		of("too many nodes", api.ErrBig, func(g *api.Graph) { g.Nodes = make([]api.Node, 13) }),
		of("too many Outs", api.ErrBig, func(g *api.Graph) { g.Outs = make([]int, 5) }),
		of("a shape", api.ErrShape, func(g *api.Graph) { g.Ins[1].Shape.H = 17 }),
		of("unlike shapes", api.ErrShape, func(g *api.Graph) { g.Nodes[5].In[1] = 2 }),
		of("a Zero", api.ErrNode, func(g *api.Graph) { g.Ins[2].Zero = 128 }),
		of("an op", api.ErrNode, func(g *api.Graph) { g.Nodes[11].Op = 13 }),
		of("two values of one", api.ErrNode, func(g *api.Graph) { g.Nodes[7].In = []int{0, 0} }),
		of("three values of two", api.ErrNode, func(g *api.Graph) { g.Nodes[6].In = []int{8, 8, 8} }),
		of("no values", api.ErrNode, func(g *api.Graph) { g.Nodes[0].In = nil }),
		of("too few weights", api.ErrWeights, func(g *api.Graph) { g.Nodes[11].W = make([]int8, 255) }),
	}
}

// far are numbers out of any bounds: some make one within, with what is added to them, when the sum goes round.
func far() []int {
	return []int{math.MinInt, math.MinInt + 1, math.MinInt + 24, math.MinInt + 65536, -1 << 62, -1 << 32, -1<<32 + 5, math.MinInt32, -65537, -65536, -1025, -1024, -24, -2, -1,
		65537, 65560, 1 << 17, math.MaxInt32, 1 << 32, 1<<32 + 5, 1 << 62, math.MaxInt - 65536, math.MaxInt - 24, math.MaxInt - 23, math.MaxInt - 1, math.MaxInt}
}

// commands are one of each kind, all of which woven has.
func commands() []api.Cmd {
	return []api.Cmd{
		{Kind: api.CmLoad, Rows: 3, Row: 15, Dram: 15, Pad: 100},
		{Kind: api.CmStore, Rows: 2, Row: 6, Dram: 1000, Pad: 500},
		{Kind: api.CmTile, Node: 5, First: 1, Rows: 2, Pad: 300, In: [2]int{100, 200}, Base: [2]int{1, 1}, Have: [2]int{2, 3}},
		{Kind: api.CmKernel, Node: 9, Rows: 4},
		{Kind: api.CmWait, Sem: 3},
		{Kind: api.CmSignal, Sem: 7},
		{Kind: api.CmHalt},
	}
}

// wanted is what the chapter says of a command, in the order of its words.
func wanted(im api.Image, c api.Cmd) ([]api.Span, api.Errno) {
	if e := graph.Check(im.Graph); e != api.OK {
		return nil, e
	}
	if e := isa.May(c); e != api.OK {
		return nil, e
	}
	values, _ := graph.Values(im.Graph)
	if len(im.Places) != len(values) {
		return nil, api.ErrArg
	}
	wide := func(value int) int { return values[value].Shape.W * values[value].Shape.C }
	var l []api.Span
	if c.Kind == 3 || c.Kind == 4 {
		if c.Node+1 > len(im.Graph.Nodes) {
			return nil, api.ErrStream
		}
		node, makes := im.Graph.Nodes[c.Node], len(im.Graph.Ins)+c.Node
		high := values[makes].Shape.H
		if c.Kind == 3 && high < c.First+c.Rows || c.Kind == 4 && high != c.Rows {
			return nil, api.ErrStream
		}
		for i, v := range node.In {
			if c.Kind == 3 {
				l = append(l, r1(c.In[i], c.In[i]+c.Have[i]*wide(v)))
			} else {
				l = append(l, r0(im.Places[v], im.Places[v]+values[v].Shape.H*wide(v)))
			}
		}
		if c.Kind == 3 {
			l = append(l, w1(c.Pad, c.Pad+c.Rows*wide(makes)))
		} else {
			l = append(l, w0(im.Places[makes], im.Places[makes]+high*wide(makes)))
		}
	}
	many := c.Rows * c.Row
	if c.Kind == 1 {
		l = []api.Span{r0(c.Dram, c.Dram+many), w1(c.Pad, c.Pad+many)}
	}
	if c.Kind == 2 {
		l = []api.Span{r1(c.Pad, c.Pad+many), w0(c.Dram, c.Dram+many)}
	}
	for _, s := range l {
		if e := mayBe(s); e != api.OK {
			return nil, e
		}
	}
	return l, api.OK
}

// mayBe is what the chapter says of a span.
func mayBe(s api.Span) api.Errno {
	size := map[int]int{0: 65536, 1: 1024}
	if _, there := size[s.Mem]; !there {
		return api.ErrArg
	}
	if s.From >= 0 && s.From <= s.To && s.To <= size[s.Mem] {
		return api.OK
	}
	return api.ErrAddress
}

// text is of all parts: two things of the same text are the same.
func text(what any) string { return fmt.Sprintf("%+v", what) }

// tells asks that a command has just these spans.
func tells(t *testing.T, what string, im api.Image, c api.Cmd, want ...api.Span) {
	t.Helper()
	if l, e := Of(im, c); e != api.OK || !slices.Equal(l, want) {
		t.Errorf("%s: Of %+v: %+v, %d, not %+v", what, c, l, e, want)
	}
}

// refuses asks for an error, and that beside it nothing is told.
func refuses(t *testing.T, what string, im api.Image, c api.Cmd, want api.Errno) {
	t.Helper()
	if l, e := Of(im, c); e != want || l != nil {
		t.Errorf("%s: Of %+v: %+v, %d, not %d", what, c, l, e, want)
	}
}

// holds asks for what the chapter says, whichever that is, and tells whether it is an error.
func holds(t *testing.T, what string, im api.Image, c api.Cmd) bool {
	t.Helper()
	l, e := wanted(im, c)
	if e != api.OK {
		refuses(t, what, im, c, e)
		return false
	}
	tells(t, what, im, c, l...)
	return true
}

// dice are numbers by a rule: the same in each run.
type dice uint64

func (d *dice) below(n int) int {
	*d = *d*6364136223846793005 + 1442695040888963407
	return int(uint64(*d)>>33) % n
}

func (d *dice) one(l ...int) int { return l[d.below(len(l))] }

// cmd is of any kind: it may be, and often has numbers at its bounds.
func (d *dice) cmd() api.Cmd {
	c := api.Cmd{Kind: 1 + d.below(7)}
	address := func() int { return d.one(0, 1, 511, 512, 1000, 1022, 1023, d.below(1024), d.below(600)) }
	rows := func() int { return d.one(1, 2, 3, 4, 7, 16, 1+d.below(16)) }
	switch c.Kind {
	case api.CmLoad, api.CmStore:
		c.Rows, c.Row = rows(), d.one(1, 2, 15, 63, 64, 128, 1+d.below(128))
		c.Dram, c.Pad = d.one(0, 65535, 65536-c.Rows*c.Row, 65535-c.Rows*c.Row, d.below(65536)), address()
	case api.CmTile:
		c.Node, c.First, c.Rows, c.Pad = d.below(12), d.one(0, 0, 1, 2, d.below(16)), d.one(1, 2, rows()), address()
		for i := range 2 {
			c.In[i], c.Base[i], c.Have[i] = address(), d.below(16), d.one(0, 1, 2, 16, d.below(17))
		}
	case api.CmKernel:
		c.Node, c.Rows = d.below(12), rows()
	case api.CmWait, api.CmSignal:
		c.Sem = d.below(8)
	}
	return c
}
