package region

import (
	"math"
	"slices"
	"testing"

	"quilt/api"
)

// P12.2: what a command reads and writes

func TestEachKindByHand(t *testing.T) {
	for _, x := range []struct {
		c    api.Cmd
		want []api.Span
	}{
		{api.Cmd{Kind: api.CmLoad, Rows: 3, Row: 15, Dram: 20, Pad: 100}, []api.Span{r0(20, 65), w1(100, 145)}},
		{api.Cmd{Kind: api.CmLoad, Rows: 1, Row: 1}, []api.Span{r0(0, 1), w1(0, 1)}},
		{api.Cmd{Kind: api.CmLoad, Rows: 8, Row: 128, Dram: 64512}, []api.Span{r0(64512, 65536), w1(0, 1024)}},
		{api.Cmd{Kind: api.CmStore, Rows: 3, Row: 15, Dram: 20, Pad: 100}, []api.Span{r1(100, 145), w0(20, 65)}},
		{api.Cmd{Kind: api.CmStore, Rows: 16, Row: 64, Dram: 64512}, []api.Span{r1(0, 1024), w0(64512, 65536)}},
		{api.Cmd{Kind: api.CmStore, Rows: 1, Row: 1, Dram: 65535, Pad: 1023}, []api.Span{r1(1023, 1024), w0(65535, 65536)}},
		// Node 0 reads rows of 15 and makes rows of 6, node 5 reads rows of 6 of two values, node 9 rows of 15 and of 6, and makes rows of 21.
		{api.Cmd{Kind: api.CmTile, Node: 0, First: 1, Rows: 2, Pad: 500, In: [2]int{7}, Base: [2]int{1}, Have: [2]int{5}}, []api.Span{r1(7, 82), w1(500, 512)}},
		{api.Cmd{Kind: api.CmTile, Node: 5, First: 3, Rows: 1, Pad: 30, In: [2]int{20, 10}, Base: [2]int{3, 2}, Have: [2]int{1, 2}}, []api.Span{r1(20, 26), r1(10, 22), w1(30, 36)}},
		{api.Cmd{Kind: api.CmTile, Node: 9, Rows: 4, In: [2]int{200, 100}, Have: [2]int{4, 4}}, []api.Span{r1(200, 260), r1(100, 124), w1(0, 84)}},
		{api.Cmd{Kind: api.CmTile, Node: 6, Rows: 2, Pad: 9, In: [2]int{3, 90}, Have: [2]int{2, 1}}, []api.Span{r1(3, 15), r1(90, 96), w1(9, 21)}},
		{api.Cmd{Kind: api.CmKernel, Node: 0, Rows: 4}, []api.Span{r0(0, 105), w0(1000, 1024)}},
		{api.Cmd{Kind: api.CmKernel, Node: 2, Rows: 1}, []api.Span{r0(1100, 1172), w0(1200, 1204)}},
		{api.Cmd{Kind: api.CmKernel, Node: 5, Rows: 4}, []api.Span{r0(1000, 1024), r0(200, 224), w0(1500, 1524)}},
		{api.Cmd{Kind: api.CmKernel, Node: 6, Rows: 4}, []api.Span{r0(1500, 1524), r0(1500, 1524), w0(1600, 1624)}},
		{api.Cmd{Kind: api.CmKernel, Node: 8, Rows: 6}, []api.Span{r0(300, 360), w0(65386, 65536)}},
		{api.Cmd{Kind: api.CmKernel, Node: 9, Rows: 4}, []api.Span{r0(300, 360), r0(200, 224), w0(2000, 2084)}},
		{api.Cmd{Kind: api.CmKernel, Node: 10, Rows: 12}, []api.Span{r0(200, 224), w0(2100, 2124)}},
		{api.Cmd{Kind: api.CmKernel, Node: 11, Rows: 4}, []api.Span{r0(1600, 1624), w0(65512, 65536)}},
		{api.Cmd{Kind: api.CmWait, Sem: 3}, nil},
		{api.Cmd{Kind: api.CmWait}, nil},
		{api.Cmd{Kind: api.CmSignal, Sem: 7}, nil},
		{api.Cmd{Kind: api.CmHalt}, nil},
	} {
		tells(t, "by hand", woven(), x.c, x.want...)
	}
}

// All rows and widths of a copy, each from places where it ends at the end, and one number beyond.
func TestCopiesAtTheEnds(t *testing.T) {
	for _, kind := range []int{api.CmLoad, api.CmStore} {
		for rows := 1; rows <= 16; rows++ {
			for row := 1; row <= 128; row++ {
				n := rows * row
				c := api.Cmd{Kind: kind, Rows: rows, Row: row, Dram: 65536 - n, Pad: 1024 - n}
				if n > 1024 {
					c.Pad = 0
					refuses(t, "more than the scratchpad", bare(), c, api.ErrAddress)
					continue
				}
				copies := func(what string, c api.Cmd) {
					large, small := r0(c.Dram, c.Dram+n), r1(c.Pad, c.Pad+n)
					if kind == api.CmLoad {
						small.Write = true
						tells(t, what, bare(), c, large, small)
					} else {
						large.Write = true
						tells(t, what, bare(), c, small, large)
					}
				}
				copies("up to both ends", c)
				beyond := c
				if beyond.Dram++; n > 1 {
					refuses(t, "one beyond DRAM", bare(), beyond, api.ErrAddress)
				} else {
					refuses(t, "no place of DRAM", bare(), beyond, api.ErrArg)
				}
				beyond = c
				if beyond.Pad++; n > 1 {
					refuses(t, "one beyond the scratchpad", bare(), beyond, api.ErrAddress)
				} else {
					refuses(t, "no place of the scratchpad", bare(), beyond, api.ErrArg)
				}
				c.Dram, c.Pad = 0, 0
				copies("from both beginnings", c)
			}
		}
	}
}

func TestCopiesAreOfAnyImage(t *testing.T) {
	for _, im := range []api.Image{woven(), bare(), single(16, 16, 8), double(1, 1, 1)} {
		// Where values lie, and what the streams are, is nothing to a command that has no node.
		wild := im
		wild.Places = make([]int, len(im.Places))
		for i := range wild.Places {
			wild.Places[i] = far()[i]
		}
		wild.Streams[1] = []api.Cmd{{Kind: 99}, {Kind: api.CmTile, Node: 77}}
		for _, im := range []api.Image{im, wild} {
			tells(t, "a load", im, api.Cmd{Kind: api.CmLoad, Rows: 2, Row: 3, Dram: 10}, r0(10, 16), w1(0, 6))
			tells(t, "a store", im, api.Cmd{Kind: api.CmStore, Rows: 2, Row: 3, Dram: 10}, r1(0, 6), w0(10, 16))
			for _, c := range commands()[4:] {
				tells(t, "none", im, c)
			}
		}
	}
}

// P12.2: tiles

// All firsts and rows of nodes of all heights: together at most as many as the node makes.
func TestTilesOfAllRows(t *testing.T) {
	for h := 1; h <= 16; h++ {
		im := single(h, 2, 3)
		for first := range 16 {
			for rows := 1; rows <= 16; rows++ {
				c := api.Cmd{Kind: api.CmTile, First: first, Rows: rows, Pad: 200, In: [2]int{30}, Have: [2]int{rows}}
				if first+rows <= h {
					tells(t, "rows that there are", im, c, r1(30, 30+6*rows), w1(200, 200+6*rows))
				} else {
					refuses(t, "rows that there are not", im, c, api.ErrStream)
				}
			}
		}
	}
}

// A node makes other rows than its values have: those that it makes are held against.
func TestTilesOfRowsThatAreMade(t *testing.T) {
	for node, s := range wovenShapes()[3:] {
		for rows := 1; rows <= 16; rows++ {
			c := api.Cmd{Kind: api.CmTile, Node: node, Rows: rows}
			if rows > s.H {
				refuses(t, "too many rows", woven(), c, api.ErrStream)
				continue
			}
			want := []api.Span{r1(0, 0), w1(0, rows*s.W*s.C)}
			if len(woven().Graph.Nodes[node].In) == 2 {
				want = slices.Insert(want, 0, r1(0, 0))
			}
			tells(t, "as many as are made", woven(), c, want...)
			c.First = s.H - rows + 1
			refuses(t, "one more", woven(), c, api.ErrStream)
			c.First--
			tells(t, "the last ones", woven(), c, want...)
		}
	}
}

// Have and In alone tell what is read: whether the value has these rows is not asked.
func TestWindowsOfATile(t *testing.T) {
	for have := range 17 {
		for _, base := range []int{0, 1, 7, 15} {
			c := api.Cmd{Kind: api.CmTile, Node: 9, Rows: 1, Pad: 1000, In: [2]int{40, 600}, Base: [2]int{base, 15 - base}, Have: [2]int{have, 16 - have}}
			tells(t, "two values", woven(), c, r1(40, 40+15*have), r1(600, 600+6*(16-have)), w1(1000, 1021))
			c = api.Cmd{Kind: api.CmTile, Node: 4, Rows: 1, Pad: 1000, In: [2]int{40}, Base: [2]int{base}, Have: [2]int{have}}
			tells(t, "one value", woven(), c, r1(40, 40+15*have), w1(1000, 1010))
		}
	}
}

// Of a node of one value the second one's fields are not looked at, wherever they would lie.
func TestASecondValueThatIsNone(t *testing.T) {
	for _, node := range []int{0, 1, 2, 3, 4, 7, 8, 10, 11} {
		c := api.Cmd{Kind: api.CmTile, Node: node, Rows: 1, Pad: 10, In: [2]int{100, 1023}, Base: [2]int{0, 15}, Have: [2]int{1, 16}}
		values, made := wovenShapes(), wovenShapes()[3+node]
		read := values[woven().Graph.Nodes[node].In[0]]
		tells(t, "one value", woven(), c, r1(100, 100+read.W*read.C), w1(10, 10+made.W*made.C))
	}
	for _, node := range []int{5, 6, 9} {
		c := api.Cmd{Kind: api.CmTile, Node: node, Rows: 1, In: [2]int{0, 1023}, Have: [2]int{1, 16}}
		refuses(t, "two values", woven(), c, api.ErrAddress)
	}
}

func TestTilesAtTheEnds(t *testing.T) {
	// Rows of 15 and of 6 are read, rows of 21 are made.
	within := api.Cmd{Kind: api.CmTile, Node: 9, Rows: 2, Pad: 1024 - 42, In: [2]int{1024 - 45, 1024 - 18}, Have: [2]int{3, 3}}
	tells(t, "up to the end", woven(), within, r1(979, 1024), r1(1006, 1024), w1(982, 1024))
	for i, change := range []func(c *api.Cmd){
		func(c *api.Cmd) { c.Pad++ },
		func(c *api.Cmd) { c.In[0]++ },
		func(c *api.Cmd) { c.In[1]++ },
		func(c *api.Cmd) { c.Have[0]++ },
		func(c *api.Cmd) { c.Have[1]++ },
		func(c *api.Cmd) { c.Rows++ },
	} {
		c := within
		change(&c)
		refuses(t, []string{"Pad", "In 0", "In 1", "Have 0", "Have 1", "Rows"}[i], woven(), c, api.ErrAddress)
	}
	none := api.Cmd{Kind: api.CmTile, Node: 9, Rows: 1, Pad: 1003, In: [2]int{1023, 1023}}
	tells(t, "no rows at the last number", woven(), none, r1(1023, 1023), r1(1023, 1023), w1(1003, 1024))
	whole := api.Cmd{Kind: api.CmTile, Rows: 8, Have: [2]int{8}}
	tells(t, "the whole scratchpad", single(16, 16, 8), whole, r1(0, 1024), w1(0, 1024))
	whole.Rows = 9
	refuses(t, "more than the scratchpad is made", single(16, 16, 8), whole, api.ErrAddress)
	whole.Rows, whole.Have[0] = 8, 9
	refuses(t, "more than the scratchpad is read", single(16, 16, 8), whole, api.ErrAddress)
	whole.Rows, whole.Have[0] = 1, 16
	refuses(t, "all is read", single(16, 16, 8), whole, api.ErrAddress)
}

// A tile has nothing to do with DRAM.
func TestATileHasNoPlaces(t *testing.T) {
	c := commands()[2]
	for value := range 15 {
		for _, place := range append(far(), 65536) {
			tells(t, "any place", at(value, place), c, r1(100, 112), r1(200, 218), w1(300, 312))
		}
	}
}

// P12.2: kernels

func TestKernelsOfAllRows(t *testing.T) {
	for node, s := range wovenShapes()[3:] {
		im := woven()
		for rows := 1; rows <= 16; rows++ {
			c := api.Cmd{Kind: api.CmKernel, Node: node, Rows: rows}
			if rows != s.H {
				refuses(t, "not all rows", im, c, api.ErrStream)
				continue
			}
			var want []api.Span
			for _, v := range im.Graph.Nodes[node].In {
				read := wovenShapes()[v]
				want = append(want, r0(im.Places[v], im.Places[v]+read.H*read.W*read.C))
			}
			want = append(want, w0(im.Places[3+node], im.Places[3+node]+s.H*s.W*s.C))
			tells(t, "all rows", im, c, want...)
		}
	}
	for h := 1; h <= 16; h++ {
		for rows := 1; rows <= 16; rows++ {
			im, c := double(h, 2, 3), api.Cmd{Kind: api.CmKernel, Rows: rows}
			if rows == h {
				tells(t, "all rows", im, c, r0(0, 6*h), r0(6*h, 12*h), w0(12*h, 18*h))
			} else {
				refuses(t, "not all rows", im, c, api.ErrStream)
			}
		}
	}
}

// The places of a node's values, and of what it makes, are held within DRAM; those of others are not looked at.
func TestPlacesOfAKernel(t *testing.T) {
	sizes := []int{105, 24, 60, 24, 72, 4, 18, 30, 24, 24, 105, 150, 84, 24, 24}
	for node, s := range wovenShapes()[3:] {
		c := api.Cmd{Kind: api.CmKernel, Node: node, Rows: s.H}
		l, _ := wanted(woven(), c)
		values := append(slices.Clone(woven().Graph.Nodes[node].In), 3+node)
		for value, size := range sizes {
			for _, place := range append(far(), 65536-size+1, 65536-size+2, 65535, 65536, math.MaxInt-size, math.MaxInt-size+1, math.MaxInt-size+2) {
				if slices.Contains(values, value) {
					refuses(t, "a place beyond", at(value, place), c, api.ErrAddress)
				} else {
					tells(t, "another one's place", at(value, place), c, l...)
				}
			}
			for _, place := range []int{0, 1, 777, 65536 - size - 1, 65536 - size} {
				want := slices.Clone(l)
				for i, v := range values {
					if v == value {
						want[i].From, want[i].To = place, place+size
					}
				}
				tells(t, "a place within", at(value, place), c, want...)
			}
		}
	}
}

func TestTheGreatestKernel(t *testing.T) {
	im := double(16, 16, 8)
	c := api.Cmd{Kind: api.CmKernel, Rows: 16}
	im.Places = []int{63488, 0, 2048}
	tells(t, "at the end", im, c, r0(63488, 65536), r0(0, 2048), w0(2048, 4096))
	im.Places = []int{63488, 63488, 63488}
	tells(t, "all at the end", im, c, r0(63488, 65536), r0(63488, 65536), w0(63488, 65536))
	for i := range 3 {
		im.Places = []int{0, 0, 0}
		im.Places[i] = 63489
		refuses(t, "one beyond", im, c, api.ErrAddress)
		im.Places[i] = -1
		refuses(t, "one ahead", im, c, api.ErrAddress)
	}
}

// P12.2: nodes and places that there are not

func TestNodesThatThereAreNot(t *testing.T) {
	some := func(im api.Image, nodes int) api.Image {
		im.Graph.Nodes = im.Graph.Nodes[:nodes]
		im.Graph.Outs = []int{0}
		im.Places = im.Places[:len(im.Graph.Ins)+nodes]
		return im
	}
	for nodes := range 13 {
		im := some(woven(), nodes)
		for node := range 12 {
			tile := api.Cmd{Kind: api.CmTile, Node: node, Rows: 1, Pad: 10}
			kernel := api.Cmd{Kind: api.CmKernel, Node: node, Rows: wovenShapes()[3+node].H}
			if node < nodes {
				holds(t, "a node", im, tile)
				holds(t, "a node", im, kernel)
				if l, e := Of(im, kernel); e != api.OK || len(l) < 2 {
					t.Errorf("%d of %d: %+v, %d", node, nodes, l, e)
				}
				continue
			}
			refuses(t, "no node", im, tile, api.ErrStream)
			for rows := 1; rows <= 16; rows++ {
				kernel.Rows = rows
				refuses(t, "no node", im, kernel, api.ErrStream)
			}
		}
		for _, node := range append(far(), 12, 13) {
			refuses(t, "a node beyond all", im, api.Cmd{Kind: api.CmTile, Node: node, Rows: 1}, api.ErrArg)
			refuses(t, "a node beyond all", im, api.Cmd{Kind: api.CmKernel, Node: node, Rows: 4}, api.ErrArg)
		}
	}
	refuses(t, "no nodes", bare(), api.Cmd{Kind: api.CmTile, Rows: 1}, api.ErrStream)
	refuses(t, "no nodes", bare(), api.Cmd{Kind: api.CmKernel, Rows: 1}, api.ErrStream)
}

func TestTooFewAndTooManyPlaces(t *testing.T) {
	for _, c := range commands() {
		for n := range 20 {
			im := with(func(im *api.Image) { im.Places = append(im.Places, 1, 2, 3, 4, 5, 6)[:n] })
			if n == 15 {
				holds(t, "as many as values", im, c)
			} else {
				refuses(t, "not as many as values", im, c, api.ErrArg)
			}
		}
		refuses(t, "no places", with(func(im *api.Image) { im.Places = nil }), c, api.ErrArg)
	}
	none := bare()
	none.Places = nil
	refuses(t, "no place of the only one", none, api.Cmd{Kind: api.CmHalt}, api.ErrArg)
}

// P12.2: commands and graphs that may not be

func TestCommandsThatMayNotBe(t *testing.T) {
	for _, c := range commands() {
		for _, change := range []func(c *api.Cmd){
			func(c *api.Cmd) { c.Kind = 0 },
			func(c *api.Cmd) { c.Kind = 8 },
			func(c *api.Cmd) { c.Kind = -c.Kind },
			func(c *api.Cmd) { c.Sem = 8 },
			func(c *api.Cmd) { c.Sem = -1 },
			func(c *api.Cmd) { c.Node = 12 },
			func(c *api.Cmd) { c.Rows = 17 },
			func(c *api.Cmd) { c.Rows = -1 },
			func(c *api.Cmd) { c.First = 16 },
			func(c *api.Cmd) { c.First = -1 },
			func(c *api.Cmd) { c.First = math.MaxInt },
			func(c *api.Cmd) { c.Row = 129 },
			func(c *api.Cmd) { c.Row = math.MaxInt },
			func(c *api.Cmd) { c.Dram = 65536 },
			func(c *api.Cmd) { c.Pad = 1024 },
			func(c *api.Cmd) { c.In[0] = 1024 },
			func(c *api.Cmd) { c.In[1] = -1 },
			func(c *api.Cmd) { c.Base[1] = 16 },
			func(c *api.Cmd) { c.Have[0] = 17 },
			func(c *api.Cmd) { c.Have[1] = -1 },
		} {
			changed := c
			change(&changed)
			refuses(t, "a command that may not be", woven(), changed, api.ErrArg)
		}
	}
	for _, c := range commands()[:4] {
		c.Rows = 0
		refuses(t, "no rows", woven(), c, api.ErrArg)
	}
}

func TestGraphsThatMayNotBe(t *testing.T) {
	for _, w := range wrongGraphs() {
		for _, c := range append(commands(), api.Cmd{}, api.Cmd{Kind: api.CmTile, Node: 11, First: 15, Rows: 16, Pad: 1023}, api.Cmd{Kind: 5, Sem: 9}) {
			refuses(t, w.what, w.im, c, w.e)
		}
	}
}

// P12.2, R3: which error is the first

func TestTheFirstError(t *testing.T) {
	noPlaces := func(im api.Image) api.Image {
		im.Places = nil
		return im
	}
	mayNot := api.Cmd{Kind: api.CmTile, Node: 11, Sem: 1, First: 9, Rows: 9, Pad: 1023}
	noNode := api.Cmd{Kind: api.CmTile, Node: 1, Rows: 1, Pad: 1023, In: [2]int{1023, 1023}, Have: [2]int{16, 16}}
	noRows := api.Cmd{Kind: api.CmTile, First: 3, Rows: 2, Pad: 1023, In: [2]int{1023}, Have: [2]int{16}}
	notAll := api.Cmd{Kind: api.CmKernel, Rows: 5}
	beyond := api.Cmd{Kind: api.CmStore, Rows: 16, Row: 128, Pad: 1023, Dram: 65535}
	for _, w := range wrongGraphs() {
		for _, c := range []api.Cmd{mayNot, noNode, noRows, notAll, beyond} {
			refuses(t, w.what+", ahead of all", w.im, c, w.e)
			refuses(t, w.what+", ahead of all", noPlaces(w.im), c, w.e)
		}
	}
	one := single(4, 2, 3)
	one.Places = []int{-1, 65536}
	refuses(t, "a command, ahead of a node", one, mayNot, api.ErrArg)
	refuses(t, "a command, with places", noPlaces(one), mayNot, api.ErrArg)
	for _, c := range []api.Cmd{noNode, noRows, notAll, beyond} {
		refuses(t, "places, ahead of a stream and an address", noPlaces(one), c, api.ErrArg)
	}
	for _, c := range []api.Cmd{noNode, noRows, notAll} {
		refuses(t, "a stream, ahead of an address", one, c, api.ErrStream)
	}
	refuses(t, "an address", one, beyond, api.ErrAddress)
	refuses(t, "an address", one, api.Cmd{Kind: api.CmKernel, Rows: 4}, api.ErrAddress)
}

// P12.2: all of it, by dice

func TestManyCommands(t *testing.T) {
	d := dice(5)
	images := []api.Image{woven(), bare(), single(16, 16, 8), single(1, 1, 1), double(8, 4, 2), with(func(im *api.Image) { im.Places = im.Places[1:] })}
	there := map[int]int{}
	const rounds = 60000
	for range rounds {
		im, c := images[d.one(0, 0, 0, 0, 1, 2, 3, 4, 5)], d.cmd()
		if d.below(10) == 0 {
			im.Places = slices.Clone(im.Places)
			im.Places[d.below(len(im.Places))] = d.one(append(far(), 65535, 65536, 0, 1)...)
		}
		if holds(t, "by dice", im, c) {
			there[c.Kind]++
		}
	}
	for kind := 1; kind <= 7; kind++ {
		if there[kind] < rounds/200 {
			t.Errorf("of kind %d %d may be", kind, there[kind])
		}
	}
}

// P12.3

func TestEngines(t *testing.T) {
	want := map[int]int{api.CmLoad: 0, api.CmStore: 0, api.CmTile: 1, api.CmKernel: 2, api.CmWait: -1, api.CmSignal: -1, api.CmHalt: -1}
	d := dice(3)
	for range 2000 {
		if c := d.cmd(); Engine(c) != want[c.Kind] {
			t.Errorf("Engine of %+v: %d", c, Engine(c))
		}
	}
	// The kind alone tells it, also of a command that may not be.
	full := api.Cmd{Sem: 8, Node: 99, First: -1, Rows: 77, Row: -5, Dram: 1 << 40, Pad: -1, In: [2]int{-1, 5000}, Base: [2]int{99, 99}, Have: [2]int{99, 99}}
	for kind := -3; kind <= 300; kind++ {
		e, there := want[kind]
		if !there {
			e = -1
		}
		full.Kind = kind
		if Engine(full) != e || Engine(api.Cmd{Kind: kind}) != e {
			t.Errorf("Engine of kind %d: %d, %d", kind, Engine(full), Engine(api.Cmd{Kind: kind}))
		}
	}
	for _, kind := range far() {
		if e := Engine(api.Cmd{Kind: kind}); e != -1 {
			t.Errorf("Engine of kind %d: %d", kind, e)
		}
	}
	for _, kind := range []int{1<<32 + 1, 1<<32 + 3, 1<<32 + 4, 257, 259, 260} {
		if e := Engine(api.Cmd{Kind: kind}); e != -1 {
			t.Errorf("Engine of kind %d: %d", kind, e)
		}
	}
}
