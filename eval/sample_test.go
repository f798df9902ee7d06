package eval

import (
	"math"
	"slices"
	"testing"

	"quilt/api"
	"quilt/graph"
)

func value(h, w, c, zero int) api.Value {
	return api.Value{Shape: api.Shape{H: h, W: w, C: c}, Zero: zero}
}

func size(v api.Value) int { return v.Shape.H * v.Shape.W * v.Shape.C }

func relu(of int) api.Node { return api.Node{Op: api.OpRelu, In: []int{of}, Mul: 1} }

func table(of int) api.Node {
	return api.Node{Op: api.OpTable, In: []int{of}, Mul: 1, W: spread(of, 256)}
}

// dice are numbers by a rule: the same in each run.
type dice uint64

func (d *dice) below(n int) int {
	*d = *d*6364136223846793005 + 1442695040888963407
	return int(uint64(*d)>>33) % n
}

// spread are numbers of both sides of 0, the same ones for the same seed.
func spread(seed, many int) []int8 {
	d := dice(seed)
	l := make([]int8, many)
	for i := range l {
		l[i] = int8(d.below(256) - 128)
	}
	return l
}

func insOf(g api.Graph, seed int) [][]int8 {
	var ins [][]int8
	for i, v := range g.Ins {
		ins = append(ins, spread(100*seed+i, size(v)))
	}
	return ins
}

// valuesOf are the values of some numbers.
func valuesOf(g api.Graph, numbers []int) []api.Value {
	all, _ := graph.Values(g)
	var l []api.Value
	for _, i := range numbers {
		l = append(l, all[i])
	}
	return l
}

// woven is a graph with values that are used two times, or never, and one that comes out two times; what goes in, and what all of it means, worked out by hand.
func woven() (g api.Graph, ins, want [][]int8) {
	g = api.Graph{
		Ins: []api.Value{value(2, 2, 1, 0), value(2, 2, 1, 0)},
		Nodes: []api.Node{
			{Op: api.OpConcat, In: []int{1, 0}, Mul: 1},
			{Op: api.OpRelu, In: []int{1}, Mul: 1},
			{Op: api.OpMul, In: []int{3, 3}, Mul: 1, Shift: 3, Zero: -5},
			{Op: api.OpMax, In: []int{2}, K: 2, Stride: 1, Mul: 1},
			{Op: api.OpFull, In: []int{4}, Out: 1, Mul: 1, Shift: 1, Zero: 7, W: []int8{1, -1, 2, 1}, B: []int32{3}},
			{Op: api.OpReshape, In: []int{2}, To: api.Shape{H: 1, W: 8, C: 1}, Mul: 1},
		},
		Outs: []int{6, 1, 5, 6},
	}
	ins = [][]int8{{1, 2, 3, 4}, {10, 20, 30, -40}}
	want = [][]int8{
		{1, 2, 3, 4}, {10, 20, 30, -40},
		{10, 1, 20, 2, 30, 3, -40, 4},
		{10, 20, 30, 0},
		{8, 45, 108, -5}, // 100, 400, 900 and 0 by 8: 13, 50, 113 and 0, less 5
		{30, 4},
		{103}, // 3 + 13 - 50 + 226 + 0 by 2, and 7
		{10, 1, 20, 2, 30, 3, -40, 4},
	}
	return g, ins, want
}

// grown are graphs that may be, of nodes by dice.
func grown() []api.Graph {
	var l []api.Graph
	for seed := range 40 {
		d := dice(seed)
		l = append(l, d.graph())
	}
	return l
}

func (d *dice) graph() api.Graph {
	g := api.Graph{Outs: []int{0}}
	for range 1 + d.below(api.MaxIns) {
		g.Ins = append(g.Ins, value(1+d.below(5), 1+d.below(5), 1+d.below(3), d.below(2)))
	}
	for range 80 {
		h := g
		h.Nodes = append(slices.Clone(g.Nodes), d.node(g))
		if graph.Check(h) == api.OK {
			g = h
		}
	}
	g.Outs = nil
	for range 1 + d.below(api.MaxOuts) {
		g.Outs = append(g.Outs, d.below(len(g.Ins)+len(g.Nodes)))
	}
	return g
}

// node is one that often may be: its settings are by dice, its weights as many as they ask for.
func (d *dice) node(g api.Graph) api.Node {
	values := len(g.Ins) + len(g.Nodes)
	n := api.Node{Op: 1 + d.below(12), In: []int{d.below(values)}, Mul: 1 + d.below(40), Shift: d.below(10), Zero: d.below(2)}
	first := valuesOf(g, n.In)[0]
	switch n.Op {
	case api.OpConv:
		d.windowed(&n, first.Shape.C, 1+d.below(3))
		n.Out, n.Pad = len(n.B), d.below(2)
	case api.OpDepth:
		d.windowed(&n, 1, first.Shape.C)
		n.Pad = d.below(2)
	case api.OpMax, api.OpAvg:
		d.windowed(&n, 0, 0)
	default:
		d.plain(&n, first, values)
	}
	return n
}

// windowed sets a node that has a window: as many B as channels that it makes, and for each the window's weights.
func (d *dice) windowed(n *api.Node, deep, chans int) {
	n.K, n.Stride = 1+d.below(3), 1+d.below(2)
	n.W, n.B = d.lists(n.K*n.K*deep*chans, chans)
}

func (d *dice) lists(weights, chans int) ([]int8, []int32) {
	var b []int32
	for range chans {
		b = append(b, int32(d.below(2000)-1000))
	}
	return spread(d.below(99), weights), b
}

// plain sets a node that has no window.
func (d *dice) plain(n *api.Node, first api.Value, values int) {
	switch n.Op {
	case api.OpFull:
		n.Out = 1 + d.below(4)
		n.W, n.B = d.lists(size(first)*n.Out, n.Out)
	case api.OpAdd, api.OpMul, api.OpConcat:
		n.In = append(n.In, d.below(values))
	case api.OpPad:
		n.Pad = 1
	case api.OpReshape:
		n.To = api.Shape{H: first.Shape.W, W: first.Shape.H, C: first.Shape.C}
	case api.OpTable:
		n.W, n.B = d.lists(256, 0)
	}
}

// The graphs are worth nothing if some op has none, or no value is used two times.
func TestGraphsAreOfAllOps(t *testing.T) {
	seen := map[int]int{}
	again, deep := 0, 0
	for _, g := range grown() {
		used := map[int]int{}
		for i, n := range g.Nodes {
			seen[n.Op]++
			for _, a := range n.In {
				used[a]++
				if used[a] == 2 {
					again++
				}
				if a == len(g.Ins)+i-1 && i > 0 {
					deep++
				}
			}
		}
	}
	for op := api.OpConv; op <= api.OpTable; op++ {
		if seen[op] < 5 {
			t.Errorf("op %d: %d nodes", op, seen[op])
		}
	}
	if again < 40 || deep < 40 {
		t.Errorf("%d values are used again, %d nodes are of the one ahead", again, deep)
	}
}

// A wrongGraph may not be.
type wrongGraph struct {
	name string
	g    api.Graph
	e    api.Errno
}

// wrongGraphs have one thing wrong each, in a graph that may be else.
func wrongGraphs() []wrongGraph {
	l := wrongEnds()
	node := func(name string, e api.Errno, spoil func(n *api.Node)) {
		for at := range 3 {
			g := api.Graph{Ins: []api.Value{value(2, 3, 1, 0)}, Nodes: []api.Node{table(0), table(0), table(0)}, Outs: []int{0}}
			spoil(&g.Nodes[at])
			l = append(l, wrongGraph{name, g, e})
		}
	}
	for _, of := range []int{-1, 3, 4, 99, math.MinInt, math.MaxInt} {
		node("In of none", api.ErrValue, func(n *api.Node) { n.In = []int{of} })
	}
	node("no op", api.ErrNode, func(n *api.Node) { n.Op = 13 })
	node("no In", api.ErrNode, func(n *api.Node) { n.In = nil })
	node("too many In", api.ErrNode, func(n *api.Node) { n.In = []int{0, 0} })
	node("three In", api.ErrNode, func(n *api.Node) { *n = api.Node{Op: api.OpAdd, In: []int{0, 0, 0}, Mul: 1} })
	node("no Mul", api.ErrNode, func(n *api.Node) { n.Mul = 0 })
	node("too wide a window", api.ErrShape, func(n *api.Node) { *n = api.Node{Op: api.OpMax, In: []int{0}, K: 3, Stride: 1, Mul: 1} })
	node("too few weights", api.ErrWeights, func(n *api.Node) { n.W = n.W[1:] })
	node("no weights", api.ErrWeights, func(n *api.Node) { n.W = nil })
	node("B that are none", api.ErrWeights, func(n *api.Node) { n.B = []int32{0} })
	return l
}

// wrongEnds are wrong in what goes in or comes out, or in how much there is.
func wrongEnds() []wrongGraph {
	var l []wrongGraph
	graph := func(name string, e api.Errno, spoil func(g *api.Graph)) {
		g := api.Graph{Ins: []api.Value{value(2, 3, 1, 0), value(1, 1, 4, 0)}, Nodes: []api.Node{relu(0), relu(1)}, Outs: []int{3}}
		spoil(&g)
		l = append(l, wrongGraph{name, g, e})
	}
	graph("nothing at all", api.ErrValue, func(g *api.Graph) { *g = api.Graph{} })
	graph("no Ins", api.ErrValue, func(g *api.Graph) { g.Ins = nil })
	graph("no Outs", api.ErrValue, func(g *api.Graph) { g.Outs = nil })
	graph("too many Ins", api.ErrBig, func(g *api.Graph) { g.Ins = slices.Repeat(g.Ins[:1], 5) })
	graph("too many nodes", api.ErrBig, func(g *api.Graph) { g.Nodes = slices.Repeat(g.Nodes[:1], 13) })
	graph("too many Outs", api.ErrBig, func(g *api.Graph) { g.Outs = slices.Repeat(g.Outs, 5) })
	graph("a wrong shape", api.ErrShape, func(g *api.Graph) { g.Ins[1].Shape.H = 17 })
	graph("a shape below 0", api.ErrShape, func(g *api.Graph) { g.Ins[1].Shape = api.Shape{H: -2, W: -2, C: 1} })
	graph("no shape", api.ErrShape, func(g *api.Graph) { g.Ins[0].Shape = api.Shape{} })
	graph("a wrong Zero", api.ErrNode, func(g *api.Graph) { g.Ins[1].Zero = 128 })
	for _, of := range []int{-1, 4, 5, math.MinInt, math.MaxInt} {
		graph("Outs of none", api.ErrValue, func(g *api.Graph) { g.Outs = []int{3, of} })
	}
	graph("too many weights", api.ErrBig, func(g *api.Graph) {
		heavy := api.Node{Op: api.OpFull, Out: 8, Mul: 1, In: []int{0}, W: make([]int8, 2048*8), B: make([]int32, 8)}
		*g = api.Graph{Ins: []api.Value{value(16, 16, 8, 0)}, Nodes: []api.Node{heavy}, Outs: []int{0}}
	})
	return l
}
