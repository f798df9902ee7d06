package region

import (
	"quilt/api"
	"quilt/shape"
)

// A run is so many numbers of a memory, one behind the other.
type run struct{ mem, at, many int }

// read need not ask whether the sum is an int: one that goes round ends ahead of where it begins, which May refuses.
func (r run) read() api.Span { return api.Span{Mem: r.mem, From: r.at, To: r.at + r.many} }

func (r run) written() api.Span {
	s := r.read()
	s.Write = true
	return s
}

// A scene is an image that has a place for each value of its graph, with these values.
type scene struct {
	api.Image
	values []api.Value
}

// spans are those of a command that may be, wherever they lie; false, if the graph has not what it asks for.
func (s scene) spans(c api.Cmd) ([]api.Span, bool) {
	large, small := run{dram, c.Dram, c.Rows * c.Row}, run{pad, c.Pad, c.Rows * c.Row}
	switch c.Kind {
	case api.CmLoad:
		return []api.Span{large.read(), small.written()}, true
	case api.CmStore:
		return []api.Span{small.read(), large.written()}, true
	case api.CmTile:
		return s.tile(c)
	case api.CmKernel:
		return s.kernel(c)
	}
	return nil, true
}

func (s scene) tile(c api.Cmd) ([]api.Span, bool) {
	in, made, there := s.node(c.Node)
	if !there || c.First+c.Rows > s.values[made].Shape.H {
		return nil, false
	}
	rows := func(value, at, many int) run {
		return run{pad, at, many * shape.Row(s.values[value].Shape)}
	}
	var l []api.Span
	for i, value := range in {
		l = append(l, rows(value, c.In[i], c.Have[i]).read())
	}
	return append(l, rows(made, c.Pad, c.Rows).written()), true
}

func (s scene) kernel(c api.Cmd) ([]api.Span, bool) {
	in, made, there := s.node(c.Node)
	if !there || c.Rows != s.values[made].Shape.H {
		return nil, false
	}
	whole := func(value int) run {
		return run{dram, s.Places[value], shape.Size(s.values[value].Shape)}
	}
	var l []api.Span
	for _, value := range in {
		l = append(l, whole(value).read())
	}
	return append(l, whole(made).written()), true
}

// node tells of which values a node is made, and which one it makes, by their numbers; false, if there is no such node.
func (s scene) node(number int) (in []int, made int, there bool) {
	if number >= len(s.Graph.Nodes) {
		return nil, 0, false
	}
	return s.Graph.Nodes[number].In, len(s.Graph.Ins) + number, true
}
