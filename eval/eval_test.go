package eval

import (
	"reflect"
	"slices"
	"testing"

	"quilt/api"
	"quilt/kern"
)

// calls are both calls of the package, by name.
func calls() map[string]func(api.Graph, [][]int8) ([][]int8, api.Errno) {
	return map[string]func(api.Graph, [][]int8) ([][]int8, api.Errno){"All": All, "Outs": Outs}
}

// expect asks All, and that Outs tells those of its numbers that come out; beside an error both tell none.
func expect(t *testing.T, what string, g api.Graph, ins, want [][]int8, e api.Errno) {
	t.Helper()
	if got, err := All(g, ins); !same(got, want) || err != e {
		t.Errorf("%s: All %v, %d, not %v, %d", what, got, err, want, e)
	}
	var outs [][]int8
	if e == api.OK {
		for _, i := range g.Outs {
			outs = append(outs, want[i])
		}
	}
	if got, err := Outs(g, ins); !same(got, outs) || err != e {
		t.Errorf("%s: Outs %v, %d, not %v, %d", what, got, err, outs, e)
	}
}

func same(a, b [][]int8) bool { return slices.EqualFunc(a, b, slices.Equal[[]int8]) }

// P6.1: what a graph means

func TestWhatAGraphMeans(t *testing.T) {
	g, ins, want := woven()
	expect(t, "woven", g, ins, want, api.OK)
	outs, _ := Outs(g, ins)
	if !same(outs, [][]int8{{103}, {10, 20, 30, -40}, {30, 4}, {103}}) {
		t.Errorf("Outs of woven: %v", outs)
	}
}

func TestTheChaptersExample(t *testing.T) {
	g := api.Graph{Ins: []api.Value{value(1, 1, 1, 0)}, Outs: []int{0, 0}}
	expect(t, "comes out two times", g, [][]int8{{7}}, [][]int8{{7}}, api.OK)
	if l, e := Outs(g, [][]int8{{7}}); !same(l, [][]int8{{7}, {7}}) || e != api.OK {
		t.Errorf("Outs: %v, %d", l, e)
	}
}

func TestGraphsWithoutNodes(t *testing.T) {
	for many := 1; many <= api.MaxIns; many++ {
		var g api.Graph
		var ins [][]int8
		for i := range many {
			v := value(1+i, 2, 3, i-2)
			g.Ins = append(g.Ins, v)
			ins = append(ins, spread(i, size(v)))
			g.Outs = append(g.Outs, many-1-i)
		}
		expect(t, "without nodes", g, ins, ins, api.OK)
	}
	least := api.Graph{Ins: []api.Value{value(1, 1, 1, 127)}, Outs: []int{0, 0, 0, 0}}
	for _, x := range []int8{-128, -1, 0, 127} {
		expect(t, "one number", least, [][]int8{{x}}, [][]int8{{x}}, api.OK)
	}
	most := api.Graph{Ins: slices.Repeat([]api.Value{value(16, 16, 8, -128)}, 4), Outs: []int{3, 2, 1, 0}}
	ins := [][]int8{spread(1, 2048), spread(2, 2048), spread(3, 2048), spread(4, 2048)}
	expect(t, "as much as may go in", most, ins, ins, api.OK)
}

// A node looks at its values in the order in which it names them.
func TestValuesInTheirOrder(t *testing.T) {
	for _, x := range []struct {
		in   []int
		want []int8
	}{
		{[]int{0, 1}, []int8{1, 3, 2, 4}}, {[]int{1, 0}, []int8{3, 1, 4, 2}}, {[]int{0, 0}, []int8{1, 1, 2, 2}}, {[]int{1, 1}, []int8{3, 3, 4, 4}},
	} {
		g := api.Graph{Ins: []api.Value{value(1, 2, 1, 0), value(1, 2, 1, 0)}, Nodes: []api.Node{{Op: api.OpConcat, In: x.in, Mul: 1}}, Outs: []int{2}}
		expect(t, "OpConcat", g, [][]int8{{1, 2}, {3, 4}}, [][]int8{{1, 2}, {3, 4}, x.want}, api.OK)
	}
}

// What stands for nought in a value is told by its node, or by what goes in: not by the op that looks at it.
func TestWhatStandsForNought(t *testing.T) {
	add := func(a, b, zero int) api.Node { return api.Node{Op: api.OpAdd, In: []int{a, b}, Mul: 1, Zero: zero} }
	g := api.Graph{Ins: []api.Value{value(1, 1, 1, 5), value(1, 1, 1, -3)}, Nodes: []api.Node{add(0, 1, 10), add(2, 0, -20), add(3, 3, 0)}, Outs: []int{4}}
	// 9 - 5 + 1 + 3 + 10; then 18 - 10 + 9 - 5 - 20; then two times -8 + 20
	expect(t, "sums", g, [][]int8{{9}, {1}}, [][]int8{{9}, {1}, {18}, {-8}, {24}}, api.OK)
}

// Each graph is held against what its values mean one by one, from the last one back.
func TestWhatManyGraphsMean(t *testing.T) {
	for _, g := range grown() {
		ins := insOf(g, 7)
		var want [][]int8
		for i := range len(g.Ins) + len(g.Nodes) {
			want = append(want, meaning(t, g, ins, i))
		}
		expect(t, "grown", g, ins, want, api.OK)
	}
}

func TestTheGreatestGraph(t *testing.T) {
	g := api.Graph{Ins: slices.Repeat([]api.Value{value(16, 16, 8, 1)}, 4), Outs: []int{15, 14, 9, 4}}
	for i := range 7 {
		n := api.Node{Op: api.OpConv, In: []int{3 + i}, K: 3, Stride: 1, Pad: 1, Out: 8, Mul: api.MaxMul, Shift: 24, W: spread(i, 576), B: make([]int32, 8)}
		g.Nodes = append(g.Nodes, n)
	}
	for i := range 5 {
		g.Nodes = append(g.Nodes, api.Node{Op: api.OpAdd, In: []int{i, 10 + i}, Mul: 20000, Shift: 15, Zero: -1})
	}
	ins := insOf(g, 3)
	var want [][]int8
	for i := range 16 {
		want = append(want, meaning(t, g, ins, i))
	}
	expect(t, "the greatest", g, ins, want, api.OK)
}

// Many ways lead from the last value to the first one: each node is done one time alone, so that this ends.
func TestValuesThatAreUsedTwoTimesAllAlong(t *testing.T) {
	g := api.Graph{Ins: []api.Value{value(1, 2, 1, 0)}, Outs: []int{12, 12}}
	want := [][]int8{{1, -1}}
	for i := range 12 {
		g.Nodes = append(g.Nodes, api.Node{Op: api.OpAdd, In: []int{i, i}, Mul: 1})
		want = append(want, []int8{int8(min(2<<i, 127)), int8(max(-2<<i, -128))})
	}
	expect(t, "doubled", g, [][]int8{{1, -1}}, want, api.OK)
}

// P6.1: which error is told

func TestGraphsThatMayNotBe(t *testing.T) {
	for _, x := range wrongGraphs() {
		var right [][]int8
		for _, v := range x.g.Ins {
			right = append(right, make([]int8, size(v)))
		}
		// Whatever goes in: what is wrong with the graph comes ahead.
		for _, ins := range [][][]int8{right, nil, {}, {nil}, {{}}, {{1}}, append(slices.Clone(right), []int8{1}), make([][]int8, 100)} {
			expect(t, x.name, x.g, ins, nil, x.e)
		}
	}
}

func TestTooFewAndTooManyIns(t *testing.T) {
	for many := 1; many <= api.MaxIns; many++ {
		g := api.Graph{Ins: slices.Repeat([]api.Value{value(1, 2, 1, 0)}, many), Nodes: []api.Node{relu(0)}, Outs: []int{0}}
		for n := range 8 {
			ins := slices.Repeat([][]int8{{1, 2}}, n)
			if n == many {
				expect(t, "as many", g, ins, append(slices.Clone(ins), []int8{1, 2}), api.OK)
				continue
			}
			expect(t, "not as many", g, ins, nil, api.ErrArg)
		}
		expect(t, "nil", g, nil, nil, api.ErrArg)
		expect(t, "a great many", g, make([][]int8, 5000), nil, api.ErrArg)
	}
}

// Each of what goes in, looked at by a node, coming out, or neither.
func TestInsOfTooFewAndTooManyNumbers(t *testing.T) {
	g := api.Graph{Ins: []api.Value{value(2, 3, 2, 0), value(3, 1, 2, 0), value(2, 2, 1, 0)}, Nodes: []api.Node{relu(0)}, Outs: []int{3, 1}}
	right := insOf(g, 1)
	for i, v := range g.Ins {
		row := v.Shape.W * v.Shape.C
		for _, many := range []int{0, 1, row, size(v) - row, size(v) - 1, size(v) + 1, size(v) + row, 2 * size(v), 1 << 16} {
			ins := slices.Clone(right)
			ins[i] = make([]int8, many)
			expect(t, "not as many numbers", g, ins, nil, api.ErrArg)
		}
		ins := slices.Clone(right)
		ins[i] = nil
		expect(t, "nil", g, ins, nil, api.ErrArg)
	}
	expect(t, "in another order", g, [][]int8{right[1], right[0], right[2]}, nil, api.ErrArg)
	expect(t, "all as one", g, [][]int8{slices.Concat(right...)}, nil, api.ErrArg)
	expect(t, "all as one, and none", g, [][]int8{slices.Concat(right...), {}, {}}, nil, api.ErrArg)
	expect(t, "all none", g, make([][]int8, 3), nil, api.ErrArg)
}

// P6.2

// The nodes behind one are taken away, or are others: what stands ahead of them means the same.
func TestNothingHangsOnWhatComesBehind(t *testing.T) {
	for _, g := range grown() {
		ins := insOf(g, 11)
		all, e := All(g, ins)
		if e != api.OK {
			t.Fatalf("%+v: %d", g, e)
		}
		for many := range len(g.Nodes) {
			stay := len(g.Ins) + many
			cut := g
			cut.Nodes, cut.Outs = g.Nodes[:many], []int{stay - 1, 0}
			expect(t, "cut", cut, ins, all[:stay], api.OK)
			for of := range stay {
				cut.Nodes = append(slices.Clone(g.Nodes[:many]), table(of))
				l, e := All(cut, ins)
				if e != api.OK || len(l) != stay+1 || !same(l[:stay], all[:stay]) {
					t.Errorf("another node behind %d: %v, %d, not %v", many, l, e, all[:stay])
				}
				outs, e := Outs(cut, ins)
				if e != api.OK || !same(outs, [][]int8{all[stay-1], all[0]}) {
					t.Errorf("another node behind %d: Outs %v, %d", many, outs, e)
				}
			}
		}
	}
}

// Which values come out makes no difference to what they mean, nor do those that do not come out.
func TestNothingHangsOnWhatComesOut(t *testing.T) {
	g, ins, want := woven()
	for a := range want {
		for b := range want {
			g.Outs = []int{a, b}
			expect(t, "two come out", g, ins, want, api.OK)
		}
		g.Outs = []int{a, a, a, a}
		expect(t, "one comes out four times", g, ins, want, api.OK)
	}
}

// R6, R7

func TestAskedAgain(t *testing.T) {
	g, ins, want := woven()
	for _, other := range grown()[:5] {
		expect(t, "woven", g, ins, want, api.OK)
		All(other, insOf(other, 2))
		All(g, nil)
		Outs(other, insOf(other, 3))
	}
	more := slices.Clone(ins)
	more[0] = []int8{4, 3, 2, 1}
	if l, _ := All(g, more); same(l, want) {
		t.Error("what goes in is another, and what it means is the same")
	}
	expect(t, "woven again", g, ins, want, api.OK)
}

func TestWhatWasHandedInStaysAsItWas(t *testing.T) {
	for name, call := range calls() {
		g, ins, _ := woven()
		asWas, insAsWere, _ := woven()
		l, _ := call(g, ins)
		for _, numbers := range l {
			for i := range numbers {
				numbers[i]++
			}
		}
		if !reflect.DeepEqual(g, asWas) || !reflect.DeepEqual(ins, insAsWere) {
			t.Errorf("%s: what was handed in is another: %+v, %v", name, g, ins)
		}
		call(g, ins[:1])
		if !reflect.DeepEqual(g, asWas) || !reflect.DeepEqual(ins, insAsWere) {
			t.Errorf("%s that tells an error: what was handed in is another: %+v, %v", name, g, ins)
		}
	}
}

func TestWhatIsToldIsOnesOwn(t *testing.T) {
	for name, call := range calls() {
		g, ins, _ := woven()
		l, _ := call(g, ins)
		want, _ := call(g, ins)
		for i := range ins {
			clear(ins[i])
		}
		for _, n := range g.Nodes {
			clear(n.W)
			clear(n.B)
		}
		if !same(l, want) {
			t.Errorf("%s: %v hangs on what was handed in: it was %v", name, l, want)
		}
		// No two lists share anything: also if they are of one value, or what lies behind the end of one.
		for i := range l {
			clear(l[i][:cap(l[i])])
			want[i] = make([]int8, len(want[i]))
			if !same(l, want) {
				t.Errorf("%s: list %d is not its own: %v, not %v", name, i, l, want)
			}
		}
	}
}

// The room behind a list's end is neither read nor written.
func TestRoomBehindTheLists(t *testing.T) {
	roomy := func(l []int8) []int8 {
		return slices.Concat(l, slices.Repeat([]int8{77}, 40))[: len(l) : len(l)+40]
	}
	for name, call := range calls() {
		g, ins, _ := woven()
		want, _ := call(g, ins)
		wide := slices.Repeat([][]int8{{55}}, 30)[:len(ins)]
		for i := range ins {
			wide[i] = roomy(ins[i])
		}
		values := slices.Repeat([]api.Value{value(9, 9, 9, 9)}, 30)
		g.Ins = append(values[:0], g.Ins...)
		if l, e := call(g, wide); !same(l, want) || e != api.OK {
			t.Errorf("%s: %v, %d, not %v", name, l, e, want)
		}
		behind := slices.Concat(wide[0][:cap(wide[0])][len(ins[0]):], wide[1][:cap(wide[1])][len(ins[1]):])
		if slices.ContainsFunc(behind, func(x int8) bool { return x != 77 }) {
			t.Errorf("%s: the room behind a list of numbers was written", name)
		}
		if slices.ContainsFunc(wide[len(ins):30], func(l []int8) bool { return !slices.Equal(l, []int8{55}) }) {
			t.Errorf("%s: the room behind what goes in was written", name)
		}
		if slices.ContainsFunc(values[len(g.Ins):], func(v api.Value) bool { return v != value(9, 9, 9, 9) }) {
			t.Errorf("%s: the room behind Ins was written", name)
		}
		short := slices.Clone(wide)
		short[0] = short[0][:3]
		if l, e := call(g, short); len(l) != 0 || e != api.ErrArg {
			t.Errorf("%s: a number in the room: %v, %d", name, l, e)
		}
		if l, e := call(g, wide[:1]); len(l) != 0 || e != api.ErrArg {
			t.Errorf("%s: a list in the room: %v, %d", name, l, e)
		}
	}
}

// meaning is what one value means: its node is done of what its values mean, and so back to what goes in.
func meaning(t *testing.T, g api.Graph, ins [][]int8, i int) []int8 {
	t.Helper()
	known := map[int][]int8{}
	var of func(i int) []int8
	of = func(i int) []int8 {
		if i < len(ins) {
			return ins[i]
		}
		if l, there := known[i]; there {
			return l
		}
		n := g.Nodes[i-len(ins)]
		var data [2][]int8
		for k, a := range n.In {
			data[k] = of(a)
		}
		l, e := kern.All(n, valuesOf(g, n.In), data)
		if e != api.OK {
			t.Fatalf("node of value %d: %d", i, e)
		}
		known[i] = l
		return l
	}
	return of(i)
}
