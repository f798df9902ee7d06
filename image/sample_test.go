package image

import (
	"encoding/binary"
	"fmt"
	"hash/crc32"
	"math"
	"reflect"
	"slices"
	"testing"

	"quilt/api"
	"quilt/graph"
	"quilt/isa"
	"quilt/model"
)

func value(h, w, c, zero int) api.Value {
	return api.Value{Shape: api.Shape{H: h, W: w, C: c}, Zero: zero}
}

// alone is the image of a graph of one value, that comes out, with no commands.
func alone(v api.Value, at int) api.Image {
	return api.Image{Graph: api.Graph{Ins: []api.Value{v}, Outs: []int{0}}, Places: []int{at}}
}

// woven is an image written out by hand: its values are of unlike sizes (12, 1, 4, 3, 9), its streams of unlike lengths.
func woven() api.Image {
	return api.Image{
		Graph: api.Graph{
			Ins: []api.Value{value(2, 3, 2, 1), value(1, 1, 1, 0)},
			Nodes: []api.Node{
				{Op: api.OpMax, In: []int{0}, K: 2, Stride: 1, Mul: 1, Zero: 1},
				{Op: api.OpFull, In: []int{2}, Out: 3, Mul: 0x0203, Shift: 1, Zero: -5, W: []int8{1, -2, 3, -4, 5, -6, 7, -8, 9, 127, -128, 0}, B: []int32{7, -1, 1 << 24}},
				{Op: api.OpPad, In: []int{1}, Pad: 1, Mul: 1},
			},
			Outs: []int{3, 0, 4},
		},
		Places: []int{0, 65535, 0x1234, 256, 65527},
		Streams: [api.Engines][]api.Cmd{
			{{Kind: api.CmLoad, Rows: 3, Row: 128, Dram: 0xABCD, Pad: 0x0123}, {Kind: api.CmSignal, Sem: 7}, {Kind: api.CmHalt}},
			{{Kind: api.CmWait, Sem: 6}, {Kind: api.CmTile, Node: 11, First: 15, Rows: 16, Pad: 0x03FF, In: [2]int{0x0102, 0x0203}, Base: [2]int{4, 5}, Have: [2]int{6, 16}}},
			{{Kind: api.CmKernel, Node: 2, Rows: 3}},
		},
	}
}

func wovenGraph() []byte {
	return slices.Concat(
		[]byte{2, 2, 3, 2, 1, 1, 1, 1, 0},
		[]byte{3},
		[]byte{4, 1, 0, 2, 1, 0, 0, 0, 1, 0, 1, 0, 0, 0, 0, 0, 0},
		[]byte{3, 1, 2, 0, 0, 0, 3, 2, 3, 1, 251, 0, 0, 0, 0, 12, 1, 254, 3, 252, 5, 250, 7, 248, 9, 127, 128, 0, 3, 0, 0, 0, 7, 255, 255, 255, 255, 1, 0, 0, 0},
		[]byte{9, 1, 1, 0, 0, 1, 0, 0, 1, 0, 0, 0, 0, 0, 0, 0, 0},
		[]byte{3, 3, 0, 4},
	)
}

func wovenPlaces() []byte {
	return []byte{0, 0, 0, 0, 255, 255, 0, 0x12, 0x34, 0, 1, 0, 0, 255, 247}
}

// wovenStreams are a stream an engine.
func wovenStreams() [3][]byte {
	return [3][]byte{
		{0, 3, 1, 3, 0, 128, 0, 0xAB, 0xCD, 1, 0x23, 6, 7, 7},
		{0, 2, 5, 6, 3, 11, 15, 16, 3, 0xFF, 1, 2, 4, 6, 2, 3, 5, 16},
		{0, 1, 4, 2, 3},
	}
}

// wovenBytes are those of woven, without the seal.
func wovenBytes() []byte {
	s := wovenStreams()
	return slices.Concat(wovenGraph(), wovenPlaces(), s[0], s[1], s[2])
}

// with is woven with a change.
func with(change func(im *api.Image)) api.Image {
	im := woven()
	change(&im)
	return im
}

// sealed are bytes with a right sum behind them.
func sealed(b []byte) []byte {
	return binary.LittleEndian.AppendUint32(slices.Clone(b), crc32.ChecksumIEEE(b))
}

// wanted are the bytes that the chapter says.
func wanted(im api.Image) []byte {
	b, _ := model.Put(im.Graph)
	for _, at := range im.Places {
		b = append(b, byte(at/65536), byte(at/256%256), byte(at%256))
	}
	for _, l := range im.Streams {
		s, _ := isa.Put(l)
		b = append(b, s...)
	}
	return sealed(b)
}

// holds tells whether bytes are of an image, by the chapter's words.
func holds(b []byte) bool {
	if len(b) < 4 || !slices.Equal(sealed(b[:len(b)-4]), b) {
		return false
	}
	b = b[:len(b)-4]
	g, n, e := model.Take(b)
	values, _ := graph.Values(g)
	if b = b[n:]; e != api.OK || len(b) < 3*len(values) {
		return false
	}
	for _, v := range values {
		if int(b[0])*65536+int(b[1])*256+int(b[2])+v.Shape.H*v.Shape.W*v.Shape.C > 65536 {
			return false
		}
		b = b[3:]
	}
	for range 3 {
		_, n, e := isa.Take(b)
		if e != api.OK {
			return false
		}
		b = b[n:]
	}
	return len(b) == 0
}

// text is of all parts: two images of the same text are the same.
func text(im api.Image) string { return fmt.Sprintf("%+v", im) }

// cut is a text that a failed test tells, but not much of a long one.
func cut(what any) string {
	s := fmt.Sprintf("%+v", what)
	return s[:min(len(s), 600)]
}

// walk visits v, and then what v is made of.
func walk(v reflect.Value, visit func(v reflect.Value)) {
	visit(v)
	switch v.Kind() {
	case reflect.Struct:
		for i := range v.NumField() {
			walk(v.Field(i), visit)
		}
	case reflect.Array, reflect.Slice:
		for i := range v.Len() {
			walk(v.Index(i), visit)
		}
	}
}

// parts are those of an image of some kinds; what is set in one is set in the image.
func parts(im *api.Image, kinds ...reflect.Kind) []reflect.Value {
	var l []reflect.Value
	walk(reflect.ValueOf(im).Elem(), func(v reflect.Value) {
		if slices.Contains(kinds, v.Kind()) {
			l = append(l, v)
		}
	})
	return l
}

func numbers(im *api.Image) []reflect.Value {
	return parts(im, reflect.Int, reflect.Int8, reflect.Int32)
}

func lists(im *api.Image) []reflect.Value { return parts(im, reflect.Slice) }

// dice are numbers by a rule: the same in each run.
type dice uint64

func (d *dice) below(n int) int {
	*d = *d*6364136223846793005 + 1442695040888963407
	return int(uint64(*d)>>33) % n
}

// cmd is one that may be.
func (d *dice) cmd() api.Cmd {
	c := api.Cmd{Kind: 1 + d.below(7)}
	if c.Kind <= api.CmKernel {
		c.Rows = 1 + d.below(16)
	}
	if c.Kind <= api.CmTile {
		c.Pad = d.below(1024)
	}
	switch c.Kind {
	case api.CmLoad, api.CmStore:
		c.Row, c.Dram = 1+d.below(128), d.below(65536)
	case api.CmTile:
		c.Node, c.First = d.below(12), d.below(16)
		for i := range 2 {
			c.In[i], c.Base[i], c.Have[i] = d.below(1024), d.below(16), d.below(17)
		}
	case api.CmKernel:
		c.Node = d.below(12)
	case api.CmWait, api.CmSignal:
		c.Sem = d.below(8)
	}
	return c
}

func (d *dice) stream(many int) []api.Cmd {
	var l []api.Cmd
	for range many {
		l = append(l, d.cmd())
	}
	return l
}

// of is an image of a graph, with places and streams by dice.
func (d *dice) of(g api.Graph) api.Image {
	im := api.Image{Graph: g}
	values, _ := graph.Values(g)
	for _, v := range values {
		im.Places = append(im.Places, d.below(65536-v.Shape.H*v.Shape.W*v.Shape.C+1))
	}
	for i := range im.Streams {
		im.Streams[i] = d.stream(d.below(6))
	}
	return im
}

// graphs are some that may be: the least, the greatest value, as many of all as may be, and as many weights.
func graphs() []api.Graph {
	most := api.Graph{Ins: []api.Value{value(1, 2, 3, 4), value(16, 16, 8, -128), value(3, 1, 1, 127), value(9, 8, 7, 6)}, Outs: []int{15, 0, 15, 4}}
	for i := range api.MaxNodes {
		most.Nodes = append(most.Nodes, api.Node{Op: api.OpAdd, In: []int{3 + i, 3 + i}, Mul: 1 + i, Zero: i - 6})
	}
	heavy := alone(value(8, 8, 8, 0), 0).Graph
	heavy.Nodes = []api.Node{{Op: api.OpFull, In: []int{0}, Out: 8, Mul: 1, W: make([]int8, 4096), B: make([]int32, 8)}}
	return []api.Graph{alone(value(1, 1, 1, 0), 0).Graph, alone(value(16, 16, 8, -1), 0).Graph, woven().Graph, most, heavy}
}

// family are images that may be.
func family() []api.Image {
	l := []api.Image{woven(), alone(value(1, 1, 1, 0), 5), alone(value(1, 2, 3, -4), 65530), alone(value(16, 16, 8, 127), 63488)}
	d := dice(9)
	for _, g := range graphs() {
		for range 20 {
			l = append(l, d.of(g))
		}
	}
	return l
}

// far are numbers out of any bounds, those among them of which the lowest bytes would be within.
func far() []int {
	return []int{-1, -2, -256, 1 << 16, 1 << 24, 1<<24 + 5, 1<<32 + 5, -1 << 24, 5 - 1<<32, 1<<63 - 256, math.MaxInt32, math.MinInt32, math.MaxInt, math.MinInt, math.MinInt + 5}
}

// mayBe asks that an image may be, that its bytes are those of the chapter, and that they are taken as it was.
func mayBe(t *testing.T, what string, im api.Image) {
	t.Helper()
	if e := May(im); e != api.OK {
		t.Fatalf("%s: May of %s: %d", what, cut(im), e)
	}
	b, e := Put(im)
	if e != api.OK || !slices.Equal(b, wanted(im)) {
		t.Fatalf("%s: Put of %s: %s, %d, not %s", what, cut(im), cut(b), e, cut(wanted(im)))
	}
	again, e := Take(b)
	if e != api.OK || text(again) != text(im) || !Same(again, im) || !Same(im, again) {
		t.Fatalf("%s: Take: %s, %d, not %s", what, cut(again), e, cut(im))
	}
}

// mayNotBe asks that an image is told to be wrong, and that beside the error nothing is told.
func mayNotBe(t *testing.T, what string, im api.Image, want api.Errno) {
	t.Helper()
	if e := May(im); e != want {
		t.Errorf("%s: May of %s: %d, not %d", what, cut(im), e, want)
	}
	if b, e := Put(im); len(b) != 0 || e != want {
		t.Errorf("%s: Put of %s: %s, %d, not %d", what, cut(im), cut(b), e, want)
	}
}

// put is Put of an image that may be.
func put(t *testing.T, im api.Image) []byte {
	t.Helper()
	b, e := Put(im)
	if e != api.OK {
		t.Fatalf("Put of %s tells %d", cut(im), e)
	}
	return b
}
