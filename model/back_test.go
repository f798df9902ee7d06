package model

import (
	"bytes"
	"reflect"
	"slices"
	"testing"

	"quilt/api"
	"quilt/graph"
	"quilt/shape"
)

// dice are numbers by a rule: the same in each run.
type dice uint64

func (d *dice) below(n int) int {
	*d = *d*6364136223846793005 + 1442695040888963407
	return int(uint64(*d)>>33) % n
}

// grown is a graph that may be, of nodes by dice.
func (d *dice) grown() api.Graph {
	var g api.Graph
	for range 1 + d.below(api.MaxIns) {
		g.Ins = append(g.Ins, value(1+d.below(5), 1+d.below(5), 1+d.below(3), d.below(2)))
	}
	g.Outs = []int{0}
	for range 60 {
		h := g
		h.Nodes = append(slices.Clone(g.Nodes), d.node(g))
		if graph.Check(h) == api.OK {
			g = h
		}
	}
	g.Outs = nil
	for range 1 + d.below(api.MaxOuts) {
		g.Outs = append(g.Outs, d.below(len(g.Ins)+len(g.Nodes)))
	}
	return g
}

// node is one that often may be: its settings are by dice, its weights as many as they ask for.
func (d *dice) node(g api.Graph) api.Node {
	values, _ := graph.Values(g)
	n := api.Node{Op: 1 + d.below(12), In: []int{d.below(len(values))}, Mul: 1 + d.below(api.MaxMul), Shift: d.below(32), Zero: d.below(2)}
	first := values[n.In[0]].Shape
	switch n.Op {
	case api.OpConv:
		n.K, n.Stride, n.Pad, n.Out = 1+d.below(3), 1+d.below(2), d.below(2), 1+d.below(4)
		n.W, n.B = d.lists(n.K*n.K*first.C*n.Out, n.Out)
	case api.OpDepth:
		n.K, n.Stride, n.Pad = 1+d.below(3), 1+d.below(2), d.below(2)
		n.W, n.B = d.lists(n.K*n.K*first.C, first.C)
	case api.OpFull:
		n.Out = 1 + d.below(8)
		n.W, n.B = d.lists(shape.Size(first)*n.Out, n.Out)
	case api.OpMax, api.OpAvg:
		n.K, n.Stride = 1+d.below(3), 1+d.below(2)
	case api.OpAdd, api.OpMul, api.OpConcat:
		n.In = append(n.In, d.below(len(values)))
	case api.OpPad:
		n.Pad = 1
	case api.OpReshape:
		n.To = api.Shape{H: first.W, W: first.H, C: first.C}
	case api.OpTable:
		n.W, _ = d.lists(256, 0)
	}
	return n
}

func (d *dice) lists(w, b int) (small []int8, wide []int32) {
	for range w {
		small = append(small, int8(d.below(256)))
	}
	for range b {
		wide = append(wide, int32(d.below(2*api.MaxBias+1)-api.MaxBias))
	}
	return small, wide
}

func family() []api.Graph {
	l := []api.Graph{
		alone(value(1, 2, 3, 0)), alone(value(16, 16, 8, -128)), alone(value(16, 16, 8, 127)), small(), every(),
		{Ins: every().Ins, Outs: []int{1, 0, 1, 0}}, {Ins: every().Ins, Nodes: every().Nodes, Outs: []int{13}},
	}
	d := dice(4)
	for range 200 {
		l = append(l, d.grown())
	}
	return l
}

// deep is a graph that shares nothing with g, with room behind each of its lists, and numbers in that room.
func deep(g api.Graph) api.Graph {
	h := api.Graph{Ins: roomy(g.Ins), Nodes: roomy(g.Nodes), Outs: roomy(g.Outs)}
	for i, n := range h.Nodes {
		h.Nodes[i].In, h.Nodes[i].W, h.Nodes[i].B = roomy(n.In), roomy(n.W), roomy(n.B)
	}
	return h
}

func roomy[T any](l []T) []T {
	all := append(slices.Clone(l), l...)
	return all[:len(l)]
}

// P4.3

func TestWhatWasPutIsTakenAsItWas(t *testing.T) {
	ops := map[int]int{}
	for _, g := range family() {
		comesBack(t, "a graph of the family", g)
		for _, n := range g.Nodes {
			ops[n.Op]++
		}
	}
	for op := api.OpConv; op <= api.OpTable; op++ {
		if ops[op] < 10 {
			t.Errorf("op %d: in %d nodes alone", op, ops[op])
		}
	}
}

func TestGraphsBehindEachOther(t *testing.T) {
	var all []byte
	for _, g := range family() {
		all = append(all, put(t, g)...)
	}
	for _, g := range family() {
		h, n, e := Take(all)
		if e != api.OK || !graph.Same(g, h) {
			t.Fatalf("Take: %v, %d, not %v", h, e, g)
		}
		all = all[n:]
	}
	if len(all) != 0 {
		t.Errorf("%d bytes are left", len(all))
	}
}

func TestNoBytesBeginOthers(t *testing.T) {
	l := family()
	var puts [][]byte
	for _, g := range l {
		puts = append(puts, put(t, g))
	}
	for i, a := range puts {
		for j, b := range puts {
			if bytes.HasPrefix(b, a) != graph.Same(l[i], l[j]) {
				t.Errorf("%v begins with %v", l[j], l[i])
			}
		}
	}
}

func TestWhatIsTakenIsPutAsTheSameBytes(t *testing.T) {
	d := dice(7)
	there := 0
	for _, g := range family() {
		was := put(t, g)
		for range 40 {
			b := slices.Clone(was)
			for range 1 + d.below(4) {
				b[d.below(len(b))] = byte(d.below(256))
			}
			if taken(t, "bytes turned", b) {
				there++
			}
			at := d.below(len(b))
			taken(t, "bytes left out", slices.Delete(b, at, min(len(b), at+1+d.below(4))))
		}
	}
	if there < 100 {
		t.Errorf("%d graphs alone", there)
	}
	for range 20000 {
		var b []byte
		for range d.below(60) {
			b = append(b, byte(d.below(1+d.below(6))))
		}
		taken(t, "bytes by dice", b)
	}
}

// What is handed in is neither changed nor kept.

func TestPutLeavesTheGraph(t *testing.T) {
	for _, was := range []api.Graph{small(), every()} {
		g, before := deep(was), deep(was)
		b := put(t, g)
		after := slices.Clone(b)
		if !graph.Same(g, before) || !sameRoom(g, before) {
			t.Errorf("Put changes the graph")
		}
		b[0]++
		again := put(t, g)
		if !bytes.Equal(again, after) {
			t.Errorf("Put's bytes are kept")
		}
		g.Ins[0].Shape.H, g.Nodes[0].W[0], g.Nodes[0].B[0], g.Nodes[0].In[0], g.Outs[0] = 99, 99, 99, 99, 99
		if !bytes.Equal(again, after) {
			t.Errorf("Put's bytes are the graph's")
		}
	}
}

// sameRoom holds against each other what stands behind the lists' ends.
func sameRoom(a, b api.Graph) bool {
	same := reflect.DeepEqual(a.Ins[:cap(a.Ins)], b.Ins[:cap(b.Ins)]) && slices.Equal(a.Outs[:cap(a.Outs)], b.Outs[:cap(b.Outs)])
	for i, n := range a.Nodes {
		m := b.Nodes[i]
		same = same && slices.Equal(n.In[:cap(n.In)], m.In[:cap(m.In)]) && slices.Equal(n.W[:cap(n.W)], m.W[:cap(m.W)]) && slices.Equal(n.B[:cap(n.B)], m.B[:cap(m.B)])
	}
	return same
}

func TestTakeLeavesTheBytes(t *testing.T) {
	was := put(t, every())
	room := slices.Concat(was, bytes.Repeat([]byte{1}, 50))
	b := room[:len(was)]
	g, _, _ := Take(b)
	h, _ := Whole(b)
	if !bytes.Equal(room, slices.Concat(was, bytes.Repeat([]byte{1}, 50))) {
		t.Errorf("the bytes are changed")
	}
	clear(room)
	if !graph.Same(g, every()) || !graph.Same(h, every()) {
		t.Errorf("the bytes are kept")
	}
	// What is laid behind one list of an answer is in no other, and none is another's.
	for i := range g.Nodes {
		n := &g.Nodes[i]
		n.In, n.W, n.B = append(n.In, 99), append(n.W, 99), append(n.B, 99)
		n.In, n.W, n.B = n.In[:len(n.In)-1], n.W[:len(n.W)-1], n.B[:len(n.B)-1]
	}
	if _, _, outs := append(g.Ins, api.Value{}), append(g.Nodes, api.Node{}), append(g.Outs, 99); len(outs) != 5 || !graph.Same(g, every()) {
		t.Errorf("lists of an answer share room")
	}
	g.Ins[0].Zero, g.Nodes[0].W[0], g.Nodes[0].B[0], g.Nodes[0].In[0], g.Outs[0] = 99, 99, 99, 99, 99
	g.Nodes[1].Op = 99
	if !graph.Same(h, every()) {
		t.Errorf("answers share lists")
	}
}
