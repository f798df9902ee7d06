package model

import "quilt/api"

// A reader takes numbers off the front of what is left. Behind the end it is short, and takes noughts alone.
type reader struct {
	left  []byte
	short bool
}

// piece cuts bytes off the front. Its room ends where it does: what stands behind it, or behind the end of all, is never within reach.
func (r *reader) piece(n int) []byte {
	if n > len(r.left) {
		r.left, r.short = nil, true
		return nil
	}
	p := r.left[:n:n]
	r.left = r.left[n:]
	return p
}

func (r *reader) number(wide int) int {
	x := 0
	for _, c := range r.piece(wide) {
		x = x<<8 | int(c)
	}
	return x
}

func (r *reader) single() int { return r.number(1) }

// small and wide take what is above the greatest of their kind as below 0.
func (r *reader) small() int8 { return int8(r.number(1)) }

func (r *reader) wide() int32 { return int32(r.number(4)) }

// list ends when the reader is short: a count that no bytes stand behind makes nothing.
func list[T any](r *reader, many int, one func() T) []T {
	var l []T
	for range r.number(many) {
		x := one()
		if r.short {
			return nil
		}
		l = append(l, x)
	}
	return l
}

func (r *reader) graph() api.Graph {
	var g api.Graph
	g.Ins = list(r, 1, r.value)
	g.Nodes = list(r, 1, r.node)
	g.Outs = list(r, 1, r.single)
	return g
}

func (r *reader) value() api.Value {
	s := r.shape()
	return api.Value{Shape: s, Zero: int(r.small())}
}

func (r *reader) shape() api.Shape {
	h, w, c := r.single(), r.single(), r.single()
	return api.Shape{H: h, W: w, C: c}
}

func (r *reader) node() api.Node {
	var n api.Node
	n.Op = r.single()
	n.In = list(r, 1, r.single)
	n.K, n.Stride, n.Pad, n.Out = r.single(), r.single(), r.single(), r.single()
	n.Mul = r.number(2)
	n.Shift, n.Zero = r.single(), int(r.small())
	n.To = r.shape()
	n.W = list(r, 2, r.small)
	n.B = list(r, 1, r.wide)
	return n
}
