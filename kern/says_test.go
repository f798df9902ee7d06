package kern

import (
	"quilt/api"
	"quilt/fixed"
)

// A grid is a value's numbers by row, column and channel, and keeps in mind which rows were looked at.
type grid struct {
	v    api.Value
	data []int8
	seen map[int]bool
}

func gridOf(v api.Value, data []int8) *grid {
	return &grid{v: v, data: data, seen: map[int]bool{}}
}

func (g *grid) at(y, x, c int) int {
	s := g.v.Shape
	if y < 0 || y >= s.H || x < 0 || x >= s.W {
		return g.v.Zero
	}
	g.seen[y] = true
	return int(g.data[y*s.W*s.C+x*s.C+c])
}

// reach is from the least row that was looked at to one behind the greatest.
func (g *grid) reach() [2]int {
	r := [2]int{}
	for y := g.v.Shape.H - 1; y >= 0; y-- {
		if !g.seen[y] {
			continue
		}
		r[0] = y
		if r[1] == 0 {
			r[1] = y + 1
		}
	}
	return r
}

// grids are those of a sample: that of a value that it has not has no numbers.
func (s sample) grids() [2]*grid {
	g := [2]*grid{gridOf(api.Value{}, nil), gridOf(api.Value{}, nil)}
	for i, v := range s.in {
		g[i] = gridOf(v, s.data[i])
	}
	return g
}

// number is what the chapter says of each op, word by word.
func (s sample) number(g [2]*grid, y, x, c int) int {
	n, a, b := s.n, g[0], g[1]
	za, zb := a.v.Zero, b.v.Zero
	scale := func(acc int) int { return fixed.Scale(acc, n.Mul, n.Shift, n.Zero) }
	switch n.Op {
	case api.OpConv, api.OpDepth:
		return scale(s.weighed(a, y, x, c))
	case api.OpFull:
		acc := int(n.B[c])
		h := a.v.Shape
		for i := range h.H * h.W * h.C {
			acc += (a.at(i/(h.W*h.C), i/h.C%h.W, i%h.C) - za) * int(n.W[c*h.H*h.W*h.C+i])
		}
		return scale(acc)
	case api.OpMax, api.OpAvg:
		most, sum := -1000, 0
		for i := range n.K {
			for j := range n.K {
				it := a.at(y*n.Stride+i, x*n.Stride+j, c)
				most, sum = max(most, it), sum+it
			}
		}
		if n.Op == api.OpMax {
			return most
		}
		return fixed.Div(sum, n.K*n.K)
	case api.OpAdd:
		return scale(a.at(y, x, c) - za + b.at(y, x, c) - zb)
	case api.OpMul:
		return scale((a.at(y, x, c) - za) * (b.at(y, x, c) - zb))
	case api.OpRelu:
		return max(a.at(y, x, c), n.Zero)
	case api.OpPad:
		return a.at(y-1, x-1, c)
	case api.OpConcat:
		if c >= a.v.Shape.C {
			return b.at(y, x, c-a.v.Shape.C)
		}
		return a.at(y, x, c)
	case api.OpReshape:
		i := (y*n.To.W+x)*n.To.C + c
		h := a.v.Shape
		return a.at(i/(h.W*h.C), i/h.C%h.W, i%h.C)
	}
	return int(n.W[a.at(y, x, c)+128])
}

func (s sample) weighed(a *grid, y, x, c int) int {
	n := s.n
	acc, chans := int(n.B[c]), a.v.Shape.C
	for i := range n.K {
		for j := range n.K {
			row, column := y*n.Stride-n.Pad+i, x*n.Stride-n.Pad+j
			if n.Op == api.OpDepth {
				acc += (a.at(row, column, c) - a.v.Zero) * int(n.W[(c*n.K+i)*n.K+j])
				continue
			}
			for d := range chans {
				acc += (a.at(row, column, d) - a.v.Zero) * int(n.W[((c*n.K+i)*n.K+j)*chans+d])
			}
		}
	}
	return acc
}

// rows are those of what a sample makes, from first on; and which rows of its values were looked at for them.
func (s sample) rows(first, rows int) ([]int8, [2][2]int) {
	g := s.grids()
	made := s.made().Shape
	var l []int8
	for y := first; y < first+rows; y++ {
		for x := range made.W {
			for c := range made.C {
				l = append(l, int8(s.number(g, y, x, c)))
			}
		}
	}
	return l, [2][2]int{g[0].reach(), g[1].reach()}
}
