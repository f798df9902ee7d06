package graph

import (
	"math"
	"reflect"
	"slices"
	"testing"

	"quilt/api"
	"quilt/shape"
)

func relu(of int) api.Node { return api.Node{Op: api.OpRelu, In: []int{of}, Mul: 1} }

func table(of int) api.Node { return api.Node{Op: api.OpTable, In: []int{of}, Mul: 1, W: weights(256)} }

func add(a, b int) api.Node { return api.Node{Op: api.OpAdd, In: []int{a, b}, Mul: 1} }

// full is of a value of size numbers: size times out weights.
func full(of, size, out int) api.Node {
	return api.Node{Op: api.OpFull, In: []int{of}, Out: out, Mul: 1, W: weights(size * out), B: biases(out)}
}

// wide is a graph of nodes of one kind on what goes in.
func wide(nodes int) api.Graph {
	g := api.Graph{Ins: []api.Value{value(2, 2, 1, 0)}, Outs: []int{0}}
	for range nodes {
		g.Nodes = append(g.Nodes, relu(0))
	}
	return g
}

// woven has nodes of nodes: what goes in are 0 and 1, the nodes 2 to 5.
func woven() api.Graph {
	return api.Graph{
		Ins: []api.Value{value(5, 4, 3, 7), value(2, 2, 3, 7)},
		Nodes: []api.Node{
			{Op: api.OpMax, In: []int{0}, K: 2, Stride: 2, Mul: 1, Zero: 7},
			{Op: api.OpConcat, In: []int{2, 1}, Mul: 2, Shift: 3, Zero: 7},
			{Op: api.OpConv, In: []int{3}, K: 1, Stride: 1, Out: 2, Mul: 3, Shift: 1, Zero: -4, W: []int8{1, -2, 3, -4, 5, -6, 7, -8, 9, -10, 11, -12}, B: []int32{1 << 24, -1 << 24}},
			{Op: api.OpReshape, In: []int{4}, To: api.Shape{H: 1, W: 8, C: 1}, Mul: 1, Zero: -4},
		},
		Outs: []int{5, 1},
	}
}

func wovenValues() []api.Value {
	return []api.Value{value(5, 4, 3, 7), value(2, 2, 3, 7), value(2, 2, 3, 7), value(2, 2, 6, 7), value(2, 2, 2, -4), value(1, 8, 1, -4)}
}

// check asks Check, and that Values tells the same error, and has values only where there is none.
func check(t *testing.T, what string, g api.Graph, want api.Errno) {
	t.Helper()
	if e := Check(g); e != want {
		t.Errorf("%s: Check %d, not %d", what, e, want)
	}
	l, e := Values(g)
	if e != want {
		t.Errorf("%s: Values' error %d, not %d", what, e, want)
	}
	many := 0
	if want == api.OK {
		many = len(g.Ins) + len(g.Nodes)
	}
	if len(l) != many {
		t.Errorf("%s: %d values, not %d", what, len(l), many)
	}
}

// P3.2: Values, Check

func TestValues(t *testing.T) {
	check(t, "woven", woven(), api.OK)
	if l, _ := Values(woven()); !slices.Equal(l, wovenValues()) {
		t.Errorf("Values: %v, not %v", l, wovenValues())
	}
	alone := api.Graph{Ins: []api.Value{value(1, 2, 3, 4)}, Outs: []int{0}}
	check(t, "without nodes", alone, api.OK)
	if l, _ := Values(alone); !slices.Equal(l, alone.Ins) {
		t.Errorf("Values of a graph without nodes: %v", l)
	}
}

func TestHowMuchAGraphHas(t *testing.T) {
	for _, x := range []struct {
		ins, nodes, outs int
		want             api.Errno
	}{
		{1, 0, 1, api.OK}, {4, 12, 4, api.OK},
		{5, 0, 1, api.ErrBig}, {1, 13, 1, api.ErrBig}, {1, 0, 5, api.ErrBig}, {300, 300, 300, api.ErrBig},
		{0, 0, 1, api.ErrValue}, {1, 0, 0, api.ErrValue}, {0, 0, 0, api.ErrValue}, {0, 1, 1, api.ErrValue}, {1, 1, 0, api.ErrValue},
		{0, 13, 1, api.ErrBig}, {0, 0, 5, api.ErrBig}, {5, 0, 0, api.ErrBig}, {0, 13, 0, api.ErrBig},
	} {
		g := wide(x.nodes)
		g.Ins = slices.Repeat(g.Ins, x.ins)
		g.Outs = slices.Repeat(g.Outs, x.outs)
		check(t, "how much", g, x.want)
	}
}

func TestWhatGoesIn(t *testing.T) {
	shapes := []api.Shape{{}, {H: 17, W: 2, C: 1}, {H: 2, W: 17, C: 1}, {H: 2, W: 2, C: 9}, {H: 0, W: 2, C: 1}, {H: -2, W: -2, C: 1}, {H: math.MinInt, W: 2, C: math.MaxInt}}
	for i := range 3 {
		g := wide(1)
		g.Ins = slices.Repeat(g.Ins, 3)
		for _, s := range shapes {
			g.Ins[i] = api.Value{Shape: s}
			check(t, "a shape that may not be", g, api.ErrShape)
			g.Ins[i].Zero = 128
			check(t, "a shape and a Zero", g, api.ErrShape)
		}
		for _, zero := range append(wild(), -129, 128, 255) {
			g.Ins[i] = value(2, 2, 1, zero)
			check(t, "a Zero that may not be", g, api.ErrNode)
		}
	}
	for _, zero := range []int{-128, -1, 0, 127} {
		g := api.Graph{Ins: []api.Value{value(16, 16, 8, zero)}, Outs: []int{0}}
		check(t, "a Zero that may be", g, api.OK)
	}
	// A shape is named ahead of a Zero, whichever of Ins has it.
	g := wide(0)
	g.Ins = []api.Value{value(2, 2, 1, 128), value(2, 2, 9, 0)}
	check(t, "a Zero, then a shape", g, api.ErrShape)
}

func TestWhatGoesInIsAskedAheadOfNodes(t *testing.T) {
	g := wide(1)
	g.Nodes[0].In = []int{5}
	check(t, "a node", g, api.ErrValue)
	g.Ins[0].Zero = 128
	check(t, "a Zero ahead of a node", g, api.ErrNode)
	g.Ins[0].Shape = api.Shape{}
	check(t, "a shape ahead of a node", g, api.ErrShape)
	g.Outs = nil
	check(t, "no Outs ahead of a shape", g, api.ErrValue)
	g.Ins = slices.Repeat(g.Ins, 5)
	check(t, "too much ahead of all", g, api.ErrBig)
}

func TestNodesStandBehindWhatTheyAreMadeOf(t *testing.T) {
	// What goes in are 0 and 1, the nodes 2, 3 and 4.
	for at := range 3 {
		for _, of := range append(wild(), -2, -1, 0, 1, 2, 3, 4, 5, 6) {
			g := wide(3)
			g.Ins = slices.Repeat(g.Ins, 2)
			g.Nodes[at].In = []int{of}
			want := api.ErrValue
			if of >= 0 && of < 2+at {
				want = api.OK
			}
			check(t, "a node of one", g, want)
			for _, in := range [][]int{{0, of}, {of, 1}} {
				g.Nodes[at] = add(in[0], in[1])
				check(t, "a node of two", g, want)
			}
		}
	}
	g := wide(1)
	g.Nodes[0] = add(0, 0)
	check(t, "a node of one value two times", g, api.OK)
}

func TestNodesOfTooFewAndTooMany(t *testing.T) {
	for _, x := range []struct {
		op   int
		in   []int
		want api.Errno
	}{
		{api.OpRelu, nil, api.ErrNode}, {api.OpRelu, []int{}, api.ErrNode}, {api.OpRelu, []int{0}, api.OK}, {api.OpRelu, []int{0, 0}, api.ErrNode},
		{api.OpAdd, nil, api.ErrNode}, {api.OpAdd, []int{0}, api.ErrNode}, {api.OpAdd, []int{0, 0}, api.OK}, {api.OpAdd, []int{0, 0, 0}, api.ErrNode}, {api.OpAdd, make([]int, 1000), api.ErrNode},
		// what is not there comes ahead, however many there are, and whatever the op
		{api.OpRelu, []int{0, 1}, api.ErrValue}, {api.OpAdd, []int{0, 0, -1}, api.ErrValue}, {0, []int{1}, api.ErrValue}, {0, []int{0}, api.ErrNode}, {0, nil, api.ErrNode},
	} {
		g := wide(1)
		g.Nodes[0].Op, g.Nodes[0].In = x.op, x.in
		check(t, "how many In", g, x.want)
	}
}

func TestErrorsOfNodesInOrder(t *testing.T) {
	wrongs := []struct {
		n    api.Node
		want api.Errno
	}{
		{relu(-1), api.ErrValue},
		{api.Node{Op: api.OpRelu, In: []int{0}}, api.ErrNode},
		{api.Node{Op: api.OpMax, In: []int{0}, K: 3, Stride: 1, Mul: 1}, api.ErrShape},
		{api.Node{Op: api.OpTable, In: []int{0}, Mul: 1}, api.ErrWeights},
	}
	for _, a := range wrongs {
		for _, b := range wrongs {
			g := wide(4)
			g.Nodes[1], g.Nodes[3] = a.n, b.n
			check(t, "two wrong nodes", g, a.want)
			g.Outs = []int{99}
			check(t, "a wrong node ahead of Outs", g, a.want)
		}
	}
}

// Each sample is told in a graph as Value tells it.
func TestCheckTellsValuesErrors(t *testing.T) {
	for _, s := range samples() {
		for mask := range 8 {
			n, in := spoilt(s, mask&4 != 0, false, mask&1 != 0)
			n.In = []int{0, 1}[:len(in)]
			g := api.Graph{Ins: in, Nodes: []api.Node{n}, Outs: []int{len(in)}}
			v, e := Value(n, in)
			check(t, s.name, g, e)
			if l, e := Values(g); e == api.OK && l[len(in)] != v {
				t.Errorf("%s: %v of Values, %v of Value", s.name, l[len(in)], v)
			}
		}
	}
}

func TestAllWeightsTogether(t *testing.T) {
	one := func(nodes ...api.Node) api.Graph {
		return api.Graph{Ins: []api.Value{value(16, 16, 2, 0), value(1, 1, 1, 0)}, Nodes: nodes, Outs: []int{0}}
	}
	check(t, "4096 of one node", one(full(0, 512, 8)), api.OK)
	check(t, "4096 of three nodes", one(full(0, 512, 7), table(0), table(1)), api.OK)
	check(t, "one more", one(full(0, 512, 7), table(0), table(1), full(1, 1, 1)), api.ErrBig)
	check(t, "one more ahead", one(full(1, 1, 1), full(0, 512, 8)), api.ErrBig)
	check(t, "8192", one(full(0, 512, 8), full(0, 512, 8)), api.ErrBig)
	check(t, "as many tables as may be", one(slices.Repeat([]api.Node{table(0)}, 12)...), api.OK)
	// One node alone may have more than all may.
	g := api.Graph{Ins: []api.Value{value(16, 16, 8, 0)}, Nodes: []api.Node{full(0, 2048, 8)}, Outs: []int{1}}
	check(t, "16384 of one node", g, api.ErrBig)
	// The B are no weights: 8 of them beside 4096 weights are not too many.
	check(t, "weights and B", one(full(0, 512, 7), full(0, 512, 1), relu(2)), api.OK)
}

func TestTooManyWeightsAmongOtherErrors(t *testing.T) {
	heavy := func(n api.Node, outs ...int) api.Graph {
		return api.Graph{Ins: []api.Value{value(16, 16, 2, 0)}, Nodes: []api.Node{full(0, 512, 8), full(0, 512, 8), n}, Outs: outs}
	}
	check(t, "a node that names none", heavy(relu(7), 0), api.ErrValue)
	check(t, "a node that may not be", heavy(api.Node{Op: api.OpRelu, In: []int{0}}, 0), api.ErrNode)
	check(t, "a node of a wrong shape", heavy(add(0, 1), 0), api.ErrShape)
	check(t, "a node of wrong weights", heavy(full(0, 511, 8), 0), api.ErrWeights)
	check(t, "Outs that are none", heavy(relu(0), 99), api.ErrBig)
	check(t, "nothing else", heavy(relu(0), 0), api.ErrBig)
}

func TestWhatComesOut(t *testing.T) {
	// What goes in are 0 and 1, the nodes 2 to 5.
	for at := range 4 {
		for _, out := range append(wild(), -2, -1, 0, 1, 2, 5, 6, 7) {
			g := woven()
			g.Outs = []int{5, 5, 0, 2}
			g.Outs[at] = out
			want := api.ErrValue
			if out >= 0 && out < 6 {
				want = api.OK
			}
			check(t, "one of Outs", g, want)
		}
	}
}

func TestZeroGraph(t *testing.T) {
	check(t, "a graph of nothing", api.Graph{}, api.ErrValue)
	check(t, "a graph of empty lists", api.Graph{Ins: []api.Value{}, Nodes: []api.Node{}, Outs: []int{}}, api.ErrValue)
}

// What is handed in, and the room behind it, stays; what is answered is new.
func TestValuesAreTheCallersOwn(t *testing.T) {
	g := woven()
	room := append(slices.Clone(g.Ins), value(9, 9, 9, 9), value(9, 9, 9, 9))
	g.Ins = room[:2]
	l, _ := Values(g)
	Check(g)
	Last(g)
	if room[2] != value(9, 9, 9, 9) || room[3] != value(9, 9, 9, 9) {
		t.Errorf("the room behind Ins: %v", room[2:])
	}
	if !reflect.DeepEqual(g, woven()) {
		t.Error("the graph was changed")
	}
	clear(l)
	if !reflect.DeepEqual(g, woven()) {
		t.Error("the values are the graph's own")
	}
	alone := api.Graph{Ins: []api.Value{value(1, 2, 3, 4)}, Outs: []int{0}}
	l, _ = Values(alone)
	l[0].Zero = 9
	if alone.Ins[0].Zero != 4 {
		t.Error("the value of a graph without nodes is the graph's own")
	}
}

// P3.2: Same

// changes are all parts of a graph, each changed by itself.
func changes() map[string]func(g *api.Graph) {
	return map[string]func(g *api.Graph){
		"Ins fewer":   func(g *api.Graph) { g.Ins = g.Ins[:1] },
		"Ins more":    func(g *api.Graph) { g.Ins = append(g.Ins, api.Value{}) },
		"Ins H":       func(g *api.Graph) { g.Ins[1].Shape.H++ },
		"Ins W":       func(g *api.Graph) { g.Ins[1].Shape.W++ },
		"Ins C":       func(g *api.Graph) { g.Ins[1].Shape.C++ },
		"Ins Zero":    func(g *api.Graph) { g.Ins[0].Zero++ },
		"Nodes fewer": func(g *api.Graph) { g.Nodes = g.Nodes[:3] },
		"Nodes more":  func(g *api.Graph) { g.Nodes = append(g.Nodes, api.Node{}) },
		"Nodes order": func(g *api.Graph) { g.Nodes[0], g.Nodes[1] = g.Nodes[1], g.Nodes[0] },
		"Op":          func(g *api.Graph) { g.Nodes[2].Op++ },
		"In":          func(g *api.Graph) { g.Nodes[1].In[1]++ },
		"In order":    func(g *api.Graph) { slices.Reverse(g.Nodes[1].In) },
		"In fewer":    func(g *api.Graph) { g.Nodes[1].In = g.Nodes[1].In[:1] },
		"In more":     func(g *api.Graph) { g.Nodes[1].In = append(g.Nodes[1].In, 0) },
		"In none":     func(g *api.Graph) { g.Nodes[2].In = nil },
		"K":           func(g *api.Graph) { g.Nodes[2].K++ },
		"Stride":      func(g *api.Graph) { g.Nodes[2].Stride++ },
		"Pad":         func(g *api.Graph) { g.Nodes[2].Pad++ },
		"Out":         func(g *api.Graph) { g.Nodes[2].Out++ },
		"Mul":         func(g *api.Graph) { g.Nodes[2].Mul++ },
		"Shift":       func(g *api.Graph) { g.Nodes[2].Shift++ },
		"Zero":        func(g *api.Graph) { g.Nodes[2].Zero++ },
		"K, Stride":   func(g *api.Graph) { g.Nodes[0].K, g.Nodes[0].Stride = 1, 3 },
		"To H":        func(g *api.Graph) { g.Nodes[3].To.H++ },
		"To W":        func(g *api.Graph) { g.Nodes[3].To.W++ },
		"To C":        func(g *api.Graph) { g.Nodes[3].To.C++ },
		"To":          func(g *api.Graph) { g.Nodes[0].To.C++ },
		"W first":     func(g *api.Graph) { g.Nodes[2].W[0]++ },
		"W last":      func(g *api.Graph) { g.Nodes[2].W[11]++ },
		"W fewer":     func(g *api.Graph) { g.Nodes[2].W = g.Nodes[2].W[:11] },
		"W none":      func(g *api.Graph) { g.Nodes[2].W = nil },
		"W more":      func(g *api.Graph) { g.Nodes[0].W = weights(1) },
		"B first":     func(g *api.Graph) { g.Nodes[2].B[0]-- },
		"B last":      func(g *api.Graph) { g.Nodes[2].B[1]++ },
		"B fewer":     func(g *api.Graph) { g.Nodes[2].B = g.Nodes[2].B[:1] },
		"B more":      func(g *api.Graph) { g.Nodes[0].B = biases(1) },
		"Outs":        func(g *api.Graph) { g.Outs[0]-- },
		"Outs order":  func(g *api.Graph) { slices.Reverse(g.Outs) },
		"Outs fewer":  func(g *api.Graph) { g.Outs = g.Outs[:1] },
		"Outs more":   func(g *api.Graph) { g.Outs = append(g.Outs, 0) },
	}
}

func TestSame(t *testing.T) {
	if !Same(woven(), woven()) {
		t.Error("the same, part by part")
	}
	for name, change := range changes() {
		g := woven()
		change(&g)
		if Same(g, woven()) || Same(woven(), g) {
			t.Errorf("%s: another graph is the same", name)
		}
		other := woven()
		change(&other)
		if !Same(g, other) {
			t.Errorf("%s: two that are changed alike", name)
		}
	}
}

// A list that is empty may be nil.
func TestSameOfEmptyLists(t *testing.T) {
	if !Same(api.Graph{}, api.Graph{}) || !Same(api.Graph{}, api.Graph{Ins: []api.Value{}, Nodes: []api.Node{}, Outs: []int{}}) {
		t.Error("graphs of nothing")
	}
	g, h := wide(1), wide(1)
	g.Nodes[0].W, g.Nodes[0].B = []int8{}, []int32{}
	if !Same(g, h) || !Same(h, g) {
		t.Error("a node without weights")
	}
	g, h = api.Graph{Nodes: []api.Node{{In: []int{}}}}, api.Graph{Nodes: []api.Node{{}}}
	if !Same(g, h) || Same(g, api.Graph{}) || Same(api.Graph{}, h) || Same(api.Graph{}, wide(0)) {
		t.Error("a node of nothing")
	}
}

// P3.2: Last

func TestLast(t *testing.T) {
	mixed := wide(0)
	mixed.Ins = slices.Repeat(mixed.Ins, 3)
	mixed.Nodes = []api.Node{relu(0), add(0, 3), relu(1), add(3, 3), relu(4)}
	mixed.Outs = []int{7}
	for _, x := range []struct {
		what string
		g    api.Graph
		want []int
	}{
		{"woven", woven(), []int{0, 4, 1, 2, 3, 4}},
		{"mixed", mixed, []int{1, 2, -1, 3, 4, -1, -1, 5}},
		{"without nodes", wide(0), []int{0}},
		{"one node that nobody looks at", wide(1), []int{1, -1}},
		{"chain", api.Graph{Ins: []api.Value{value(1, 1, 1, 0)}, Nodes: []api.Node{relu(0), relu(1)}, Outs: []int{2}}, []int{0, 1, 2}},
		{"out two times", api.Graph{Ins: []api.Value{value(1, 1, 1, 0), value(1, 1, 1, 0)}, Outs: []int{1, 1}}, []int{-1, 0}},
		{"out, and looked at behind", api.Graph{Ins: []api.Value{value(1, 1, 1, 0)}, Nodes: []api.Node{relu(0), relu(1), relu(1)}, Outs: []int{1, 0}}, []int{3, 3, -1, -1}},
	} {
		check(t, x.what, x.g, api.OK)
		if got := Last(x.g); !slices.Equal(got, x.want) {
			t.Errorf("Last of %s: %v, not %v", x.what, got, x.want)
		}
	}
}

func TestLastOfWhatMayNotBe(t *testing.T) {
	wrong := woven()
	wrong.Nodes[3].In[0] = math.MinInt
	beyond := woven()
	beyond.Outs = []int{6}
	for _, g := range []api.Graph{{}, wrong, beyond, wide(13)} {
		if l := Last(g); len(l) != 0 {
			t.Errorf("Last of a graph that may not be: %v", l)
		}
	}
}

// P3.3

// grown is a graph of nodes on nodes, each of an op and of values that a count picks.
func grown(count int) api.Graph {
	g := api.Graph{Ins: []api.Value{value(3+count%11, 4+count%7, 1+count%4, 7), value(3, 4, 2, 7)}}
	pick := func(below int) int {
		count = (count*1103515245 + 12345) & math.MaxInt32
		return (count >> 8) % below
	}
	l := slices.Clone(g.Ins)
	for range 60 {
		n := sampleOf(1 + pick(12)).n
		a, b := pick(len(l)), pick(len(l))
		for i, may := range settings(n.Op) {
			*setting(&n, i) = may[0] + pick(may[1]-may[0]+1)
		}
		if n.Op == api.OpReshape {
			n.To = api.Shape{H: l[a].Shape.W, W: l[a].Shape.H, C: l[a].Shape.C}
		}
		n = fitted(n, l[a].Shape)
		n.In = []int{a, b}[:len(sampleOf(n.Op).in)]
		h := g
		h.Nodes, h.Outs = append(slices.Clone(g.Nodes), n), []int{0}
		if made, e := Values(h); e == api.OK {
			g, l = h, made
		}
	}
	g.Outs = []int{len(l) - 1}
	return g
}

func TestGraphsThatAreGrown(t *testing.T) {
	ops := map[int]int{}
	for count := range 300 {
		g := grown(count)
		check(t, "grown", g, api.OK)
		l, _ := Values(g)
		for i, v := range l {
			if shape.May(v.Shape) != api.OK || v.Zero < -128 || v.Zero > 127 {
				t.Fatalf("value %d of %v: %v", i, g, v)
			}
		}
		want := slices.Repeat([]int{-1}, len(l))
		for i, n := range g.Nodes {
			ops[n.Op]++
			for _, of := range n.In {
				if of < 0 || of >= len(g.Ins)+i {
					t.Fatalf("node %d is made of %d, that does not stand ahead", i, of)
				}
				want[of] = i
			}
		}
		want[len(l)-1] = len(g.Nodes)
		if got := Last(g); !slices.Equal(got, want) {
			t.Fatalf("Last: %v, not %v", got, want)
		}
		if !Same(g, grown(count)) {
			t.Fatal("grown alike, but not the same")
		}
	}
	if len(ops) != 12 {
		t.Errorf("ops that were grown: %v", ops)
	}
}
