package image

import (
	"slices"
	"testing"

	"quilt/api"
)

// A wrong is something of an image that may not be, and what is told of it.
type wrong struct {
	what string
	im   api.Image
	e    api.Errno
}

func wrongGraph(what string, e api.Errno, change func(g *api.Graph)) wrong {
	return wrong{what, with(func(im *api.Image) { change(&im.Graph) }), e}
}

// wrongGraphs have each of graph's errors; places and streams are right, as far as there can be any.
func wrongGraphs() []wrong {
	heavy := func(g *api.Graph) {
		n := api.Node{Op: api.OpFull, In: []int{0}, Out: 1, Mul: 1, W: make([]int8, 2048), B: make([]int32, 1)}
		*g = api.Graph{Ins: []api.Value{value(16, 16, 8, 0), value(1, 1, 1, 0)}, Nodes: []api.Node{n, n, n}, Outs: []int{0}}
	}
	return []wrong{
		wrongGraph("five Ins", api.ErrBig, func(g *api.Graph) { g.Ins = slices.Repeat(g.Ins[:1], 5) }),
		wrongGraph("13 nodes", api.ErrBig, func(g *api.Graph) { g.Nodes = slices.Repeat(g.Nodes[:1], 13) }),
		wrongGraph("five Outs", api.ErrBig, func(g *api.Graph) { g.Outs = make([]int, 5) }),
		wrongGraph("three times 2048 weights", api.ErrBig, heavy),
		wrongGraph("no Ins", api.ErrValue, func(g *api.Graph) { g.Ins = nil }),
		wrongGraph("no Outs", api.ErrValue, func(g *api.Graph) { g.Outs = nil }),
		wrongGraph("nothing at all", api.ErrValue, func(g *api.Graph) { *g = api.Graph{} }),
		wrongGraph("an In that is not ahead", api.ErrValue, func(g *api.Graph) { g.Nodes[1].In[0] = 3 }),
		wrongGraph("an Out that is none", api.ErrValue, func(g *api.Graph) { g.Outs[2] = 5 }),
		wrongGraph("an Out below 0", api.ErrValue, func(g *api.Graph) { g.Outs[0] = -1 }),
		wrongGraph("H 17", api.ErrShape, func(g *api.Graph) { g.Ins[1].Shape.H = 17 }),
		wrongGraph("a window that is too large", api.ErrShape, func(g *api.Graph) { g.Nodes[0].K = 3 }),
		wrongGraph("Zero 128", api.ErrNode, func(g *api.Graph) { g.Ins[0].Zero = 128 }),
		wrongGraph("an op that is none", api.ErrNode, func(g *api.Graph) { g.Nodes[2].Op = 13 }),
		wrongGraph("a weight less", api.ErrWeights, func(g *api.Graph) { g.Nodes[1].W = g.Nodes[1].W[1:] }),
		wrongGraph("a B too far", api.ErrWeights, func(g *api.Graph) { g.Nodes[1].B[2]++ }),
	}
}

func halts(many int) []api.Cmd { return slices.Repeat([]api.Cmd{{Kind: api.CmHalt}}, many) }

// wrongCmds are commands that may not be.
func wrongCmds() []api.Cmd {
	return []api.Cmd{
		{}, {Kind: 8}, {Kind: -1}, {Kind: 256 + api.CmHalt}, {Kind: api.CmHalt, Sem: 1}, {Kind: api.CmWait, Sem: 8}, {Kind: api.CmSignal, Sem: -1}, {Kind: api.CmKernel}, {Kind: api.CmKernel, Node: 12, Rows: 1},
		{Kind: api.CmTile, Rows: 17}, {Kind: api.CmLoad, Rows: 1, Row: 129}, {Kind: api.CmStore, Rows: 1, Row: 1, Dram: 65536},
	}
}

// withStream is woven with another stream.
func withStream(engine int, l []api.Cmd) api.Image {
	return with(func(im *api.Image) { im.Streams[engine] = l })
}

// P9.1

func TestImagesThatMayBe(t *testing.T) {
	for _, im := range family() {
		mayBe(t, "of the family", im)
	}
}

// What no call of this layer is said to ask: others do.
func TestWhatIsNotAsked(t *testing.T) {
	one := alone(value(1, 1, 1, 0), 7)
	for i := range one.Streams {
		im := one
		im.Streams[i] = []api.Cmd{{Kind: api.CmHalt}, {Kind: api.CmKernel, Node: 11, Rows: 16}, {Kind: api.CmTile, Node: 5, First: 15, Rows: 16}, {Kind: api.CmStore, Rows: 16, Row: 128, Dram: 65535, Pad: 1023}, {Kind: api.CmWait, Sem: 3}}
		mayBe(t, "no such node, beyond a memory, on any engine, no halt at the end", im)
	}
	mayBe(t, "all at one place", with(func(im *api.Image) { im.Places = make([]int, 5) }))
	mayBe(t, "places that meet", with(func(im *api.Image) { im.Places = []int{100, 101, 102, 103, 104} }))
}

func TestGraphsThatMayNotBe(t *testing.T) {
	for _, w := range wrongGraphs() {
		mayNotBe(t, w.what, w.im, w.e)
	}
	mayNotBe(t, "nothing at all", api.Image{}, api.ErrValue)
}

func TestHowManyPlaces(t *testing.T) {
	for _, g := range graphs() {
		d := dice(1)
		im := d.of(g)
		many := len(g.Ins) + len(g.Nodes)
		for n := range many + 20 {
			im.Places = make([]int, n)
			if n == many {
				mayBe(t, "as many places as values", im)
			} else {
				mayNotBe(t, "not as many places as values", im, api.ErrArg)
			}
		}
		im.Places = nil
		mayNotBe(t, "no places", im, api.ErrArg)
		im.Places = make([]int, 1<<17)
		mayNotBe(t, "many places", im, api.ErrArg)
	}
}

func TestEachPlaceAtItsBounds(t *testing.T) {
	for i, size := range []int{12, 1, 4, 3, 9} {
		at := func(place int) api.Image { return with(func(im *api.Image) { im.Places[i] = place }) }
		last := 65536 - size
		for _, place := range []int{0, 1, 255, 256, 257, 0x1234, 32767, 32768, 65280, last - 1, last} {
			mayBe(t, "a place", at(place))
		}
		for _, place := range append(far(), last+1, last+2, 65536-1+size, 65537) {
			mayNotBe(t, "a place", at(place), api.ErrArg)
		}
	}
	for _, v := range []api.Value{value(1, 1, 1, 0), value(16, 16, 8, 0), value(16, 1, 1, 0), value(1, 16, 1, 0), value(1, 1, 8, 0), value(5, 4, 3, -9)} {
		last := 65536 - v.Shape.H*v.Shape.W*v.Shape.C
		for place := last - 300; place <= last+2100; place++ {
			if place <= last {
				mayBe(t, "a place", alone(v, place))
			} else {
				mayNotBe(t, "a place", alone(v, place), api.ErrArg)
			}
		}
	}
}

func TestEachStream(t *testing.T) {
	d := dice(2)
	for i := range api.Engines {
		for _, many := range []int{0, 1, 2, 255, 256, 257, 4095, 4096} {
			mayBe(t, "halts", withStream(i, halts(many)))
			mayBe(t, "any commands", withStream(i, d.stream(many)))
		}
		mayBe(t, "no commands", withStream(i, []api.Cmd{}))
		for _, many := range []int{4097, 4098, 8192, 65536, 65537} {
			mayNotBe(t, "too many", withStream(i, halts(many)), api.ErrBig)
			mayNotBe(t, "too many that may not be", withStream(i, make([]api.Cmd, many)), api.ErrBig)
		}
		for _, c := range wrongCmds() {
			mayNotBe(t, "alone", withStream(i, []api.Cmd{c}), api.ErrArg)
			for k := range len(woven().Streams[i]) + 1 {
				mayNotBe(t, "among others", withStream(i, slices.Insert(woven().Streams[i], k, c)), api.ErrArg)
			}
			mayNotBe(t, "the last one of all", withStream(i, append(halts(4095), c)), api.ErrArg)
		}
	}
	im := woven()
	for i := range im.Streams {
		im.Streams[i] = d.stream(4096)
	}
	mayBe(t, "as many as may be on all engines", im)
}

// R3

func TestTheGraphsErrorComesFirst(t *testing.T) {
	for _, w := range wrongGraphs() {
		im := w.im
		im.Places = nil
		mayNotBe(t, w.what+", no places", im, w.e)
		im.Places = []int{-1, -1, -1, -1, -1}
		mayNotBe(t, w.what+", places below 0", im, w.e)
		im = w.im
		im.Streams[0] = halts(4097)
		mayNotBe(t, w.what+", too many commands", im, w.e)
		im.Streams[0] = []api.Cmd{{}}
		mayNotBe(t, w.what+", no command", im, w.e)
	}
}

func TestAPlacesErrorComesAheadOfTheStreams(t *testing.T) {
	for i := range api.Engines {
		for _, places := range [][]int{nil, {0, 0, 0, 0}, {0, 0, 0, 0, 0, 0}, {-1, 0, 0, 0, 0}, {0, 0, 0, 0, 65528}} {
			im := withStream(i, halts(4097))
			im.Places = places
			mayNotBe(t, "places, and too many commands", im, api.ErrArg)
		}
	}
}

func TestTheFirstStreamsErrorComesFirst(t *testing.T) {
	for i := range api.Engines {
		for k := range i {
			im := withStream(i, halts(4097))
			im.Streams[k] = []api.Cmd{{Kind: api.CmHalt}, {}}
			mayNotBe(t, "no command ahead of too many", im, api.ErrArg)
			im = withStream(i, []api.Cmd{{}})
			im.Streams[k] = halts(4097)
			mayNotBe(t, "too many ahead of no command", im, api.ErrBig)
		}
	}
}
