package graph

import (
	"math"

	"quilt/api"
	"quilt/shape"
)

// A node's windows are within narrower bounds than those that shape.Out takes.
const (
	mostWindow = 3
	mostStride = 2
	mostPad    = 1
)

// tableSize is one weight for each number that may stand in a value.
const tableSize = 1 << 8

type bounds struct{ least, most int }

func (b bounds) hold(x int) bool { return b.least <= x && x <= b.most }

func zeros() bounds { return bounds{math.MinInt8, math.MaxInt8} }

func tooFar(b int32) bool { return !bounds{-api.MaxBias, api.MaxBias}.hold(int(b)) }

func mayNotBe(v api.Value) bool { return shape.May(v.Shape) != api.OK }

// op is what sets an op apart from others. Bounds that it does not tell are 0 to 0: the setting is not its own.
type op struct {
	values              int // how many a node is made of
	k, stride, pad, out bounds
	reshapes            bool // To is a setting of its own
	keeps               bool // Zero is that of its values
	makes               maker
	weights             counter
}

// A maker tells the shape that is made of values that may be: one that may not be, if these do not go together.
type maker func(n api.Node, in []api.Value) api.Shape

// A counter tells how many weights, and how many B, go with a first value and what is made.
type counter func(n api.Node, first, made api.Shape) (w, b int)

// opOf makes the ops when one is asked for; false, if there is none of that number.
func opOf(number int) (op, bool) {
	window := op{values: 1, k: bounds{1, mostWindow}, stride: bounds{1, mostStride}}
	pads, chans := bounds{0, mostPad}, bounds{1, api.MaxChans}
	var o op
	switch number {
	case api.OpConv:
		o = window
		o.pad, o.out, o.makes, o.weights = pads, chans, slid(outChans), ofChannels(deepWindow)
	case api.OpDepth:
		o = window
		o.pad, o.makes, o.weights = pads, slid(sameChans), ofChannels(flatWindow)
	case api.OpFull:
		o = op{values: 1, out: chans, makes: point, weights: ofChannels(everything)}
	case api.OpMax, api.OpAvg:
		o = window
		o.keeps, o.makes, o.weights = true, slid(sameChans), always(0)
	case api.OpAdd, api.OpMul:
		o = op{values: 2, makes: alike, weights: always(0)}
	case api.OpRelu:
		o = op{values: 1, keeps: true, makes: alike, weights: always(0)}
	case api.OpPad:
		o = op{values: 1, pad: bounds{1, 1}, keeps: true, makes: framed, weights: always(0)}
	case api.OpConcat:
		o = op{values: 2, keeps: true, makes: stacked, weights: always(0)}
	case api.OpReshape:
		o = op{values: 1, reshapes: true, keeps: true, makes: reshaped, weights: always(0)}
	case api.OpTable:
		o = op{values: 1, makes: alike, weights: always(tableSize)}
	default:
		return op{}, false
	}
	return o, true
}

// takes asks for all that is ErrNode together, so that none of it comes behind another error.
func (o op) takes(n api.Node, in []api.Value) bool {
	if len(in) != o.values {
		return false
	}
	for _, v := range in {
		if o.keeps && v.Zero != n.Zero {
			return false
		}
	}
	scaled := bounds{1, api.MaxMul}.hold(n.Mul) && bounds{0, api.MaxShift}.hold(n.Shift) && zeros().hold(n.Zero)
	return scaled && o.set(n)
}

func (o op) set(n api.Node) bool {
	within := o.k.hold(n.K) && o.stride.hold(n.Stride) && o.pad.hold(n.Pad) && o.out.hold(n.Out)
	// Only an op with windows has a K to hold Pad against.
	windowed := o.k.most > 0
	return within && !(windowed && n.Pad >= n.K) && (o.reshapes || n.To == api.Shape{})
}

// slid tells the places that a window has over a value, of as many channels as chans tells.
func slid(chans func(n api.Node, first api.Shape) int) maker {
	return func(n api.Node, in []api.Value) api.Shape {
		first := in[0].Shape
		over := func(size int) int { return shape.Out(size, n.K, n.Stride, n.Pad) }
		return api.Shape{H: over(first.H), W: over(first.W), C: chans(n, first)}
	}
}

func outChans(n api.Node, first api.Shape) int { return n.Out }

func sameChans(n api.Node, first api.Shape) int { return first.C }

func point(n api.Node, in []api.Value) api.Shape { return api.Shape{H: 1, W: 1, C: n.Out} }

func alike(n api.Node, in []api.Value) api.Shape {
	for _, v := range in {
		if v.Shape != in[0].Shape {
			return api.Shape{}
		}
	}
	return in[0].Shape
}

func framed(n api.Node, in []api.Value) api.Shape {
	made := in[0].Shape
	made.H += 2 * n.Pad
	made.W += 2 * n.Pad
	return made
}

func stacked(n api.Node, in []api.Value) api.Shape {
	a, b := in[0].Shape, in[1].Shape
	if a.H != b.H || a.W != b.W {
		return api.Shape{}
	}
	a.C += b.C
	return a
}

// reshaped has no need to ask whether To may be: of one that may not, Size is 0, and of a value it never is.
func reshaped(n api.Node, in []api.Value) api.Shape {
	if shape.Size(n.To) != shape.Size(in[0].Shape) {
		return api.Shape{}
	}
	return n.To
}

// ofChannels tells that each channel of what is made has one B, and as many weights as each tells.
func ofChannels(each func(n api.Node, first api.Shape) int) counter {
	return func(n api.Node, first, made api.Shape) (w, b int) {
		return each(n, first) * made.C, made.C
	}
}

func deepWindow(n api.Node, first api.Shape) int { return flatWindow(n, first) * first.C }

func flatWindow(n api.Node, first api.Shape) int { return n.K * n.K }

func everything(n api.Node, first api.Shape) int { return shape.Size(first) }

func always(weights int) counter {
	return func(n api.Node, first, made api.Shape) (w, b int) { return weights, 0 }
}
