package kern

import (
	"math"
	"reflect"
	"slices"
	"testing"

	"quilt/api"
)

// cut is the window of some rows of a value: its room ends where its numbers do.
func cut(v api.Value, data []int8, from, to int) api.Window {
	row := v.Shape.W * v.Shape.C
	return api.Window{Base: from, Have: to - from, V: slices.Clip(slices.Clone(data[from*row : to*row]))}
}

// windows are those of so many rows more, on each side, than are needed for a row.
func (s sample) windows(r, more int) [2]api.Window {
	needs, _ := Needs(s.n, s.in, r, 1)
	var w [2]api.Window
	for i, v := range s.in {
		w[i] = cut(v, s.data[i], max(needs[i][0]-more, 0), min(needs[i][1]+more, v.Shape.H))
	}
	return w
}

func (s sample) wholes() [2]api.Window { return s.windows(0, api.MaxSide) }

// expectRow asks for a row, and that beside an error there is none.
func expectRow(t *testing.T, what string, s sample, w [2]api.Window, r int, want []int8, e api.Errno) {
	t.Helper()
	if got, err := Row(s.n, s.in, w, r); !slices.Equal(got, want) || err != e {
		t.Errorf("%s, row %d of %s %+v of %v: %v, %d, not %v, %d", what, r, s.name, s.n, s.in, got, err, want, e)
	}
}

// P5.3

func TestRowOfAllWindows(t *testing.T) {
	for _, s := range samples() {
		for r := range s.made().Shape.H {
			want, _ := s.rows(r, 1)
			for more := range 3 {
				expectRow(t, "more rows", s, s.windows(r, more), r, want, api.OK)
			}
			expectRow(t, "all rows", s, s.wholes(), r, want, api.OK)
		}
	}
}

func TestRowThatIsNotThere(t *testing.T) {
	for _, s := range samples() {
		h := s.made().Shape.H
		for _, r := range append(wild(), -1, h, h+1, api.MaxSide) {
			if r < h && r >= 0 {
				continue
			}
			expectRow(t, "all rows", s, s.wholes(), r, nil, api.ErrArg)
		}
	}
}

// Of each window that a row needs: a row fewer at the one end, and at the other; a number fewer, and more; none at all.
func TestWindowsThatHaveTooFew(t *testing.T) {
	for _, s := range samples() {
		for r := range s.made().Shape.H {
			needs, _ := Needs(s.n, s.in, r, 1)
			for i, v := range s.in {
				from, to := needs[i][0], needs[i][1]
				if from == to {
					continue
				}
				few := []api.Window{cut(v, s.data[i], from+1, to), cut(v, s.data[i], from, to-1), {}, {Base: from}, {Have: to}}
				if to < v.Shape.H {
					few = append(few, cut(v, s.data[i], from+1, to+1), cut(v, s.data[i], to, v.Shape.H))
				}
				if from > 0 {
					few = append(few, cut(v, s.data[i], from-1, to-1), cut(v, s.data[i], 0, from))
				}
				right := cut(v, s.data[i], from, to)
				for _, numbers := range [][]int8{nil, right.V[1:], right.V[:len(right.V)-1], append(slices.Clone(right.V), 0), slices.Repeat(right.V, 2)} {
					few = append(few, api.Window{Base: right.Base, Have: right.Have, V: numbers})
				}
				for _, w := range few {
					with := s.windows(r, 0)
					with[i] = w
					expectRow(t, "too few", s, with, r, nil, api.ErrArg)
				}
			}
		}
	}
}

// Windows whose Base or Have is none, whatever row is asked for: also one that needs no row.
func TestWindowsThatAreNone(t *testing.T) {
	all := append(samples(), sampleOf("OpPad", api.Node{Op: api.OpPad, Pad: 1, Mul: 1, Zero: 6}, value(5, 1, 1, 6)))
	for _, s := range all {
		for i, v := range s.in {
			h, row := v.Shape.H, v.Shape.W*v.Shape.C
			none := []api.Window{
				{Base: -1, Have: h, V: s.data[i]}, {Base: -1, Have: h + 1, V: make([]int8, (h+1)*row)}, {Base: -1, Have: 0}, {Base: -1, Have: 1, V: make([]int8, row)},
				{Base: 0, Have: h + 1, V: make([]int8, (h+1)*row)}, {Base: 1, Have: h, V: s.data[i]}, {Base: h, Have: 1, V: make([]int8, row)}, {Base: h + 1, Have: 0}, {Base: h + 1, Have: -1},
				{Base: 0, Have: -1}, {Base: 0, Have: -1, V: s.data[i]}, {Base: h, Have: -h}, {Base: 1, Have: -1},
			}
			for _, x := range wild() {
				none = append(none, api.Window{Base: x}, api.Window{Have: x}, api.Window{Base: x, Have: x}, api.Window{Base: x, Have: -x, V: s.data[i]}, api.Window{Base: x, Have: h, V: s.data[i]}, api.Window{Base: 1, Have: x, V: s.data[i]})
			}
			none = append(none, api.Window{Base: math.MinInt, Have: math.MaxInt}, api.Window{Base: math.MaxInt, Have: math.MinInt}, api.Window{Base: 1, Have: math.MaxInt})
			for _, w := range none {
				with := s.wholes()
				with[i] = w
				expectRow(t, "none", s, with, 0, nil, api.ErrArg)
				expectRow(t, "none", s, with, s.made().Shape.H-1, nil, api.ErrArg)
			}
		}
	}
}

// The first and the last row of OpPad need no row: any window that may be does, one of no rows too.
func TestRowOfNoRows(t *testing.T) {
	s := sampleOf("OpPad", api.Node{Op: api.OpPad, Pad: 1, Mul: 1, Zero: 6}, value(3, 2, 2, 6))
	frame := slices.Repeat([]int8{6}, 8)
	for from := range 4 {
		for to := from; to <= 3; to++ {
			w := [2]api.Window{cut(s.in[0], s.data[0], from, to)}
			expectRow(t, "first", s, w, 0, frame, api.OK)
			expectRow(t, "last", s, w, 4, frame, api.OK)
		}
	}
	for _, w := range []api.Window{{V: []int8{1}}, {Base: 1, Have: 1}, {Base: 1, Have: 1, V: make([]int8, 5)}, {Base: 4}, {Base: 3, Have: 1, V: make([]int8, 4)}} {
		expectRow(t, "first", s, [2]api.Window{w}, 0, nil, api.ErrArg)
		expectRow(t, "last", s, [2]api.Window{w}, 4, nil, api.ErrArg)
	}
}

// Of a value that a node has not, neither the window nor the numbers are looked at.
func TestValueThatItHasNot(t *testing.T) {
	for _, s := range samples() {
		if len(s.in) == 2 {
			continue
		}
		h := s.made().Shape.H
		want, _ := s.rows(h-1, 1)
		for _, w := range []api.Window{{Base: -1}, {Have: -1}, {Base: 99, Have: 99, V: []int8{1}}, {Base: math.MaxInt, Have: math.MaxInt}} {
			with := s.wholes()
			with[1] = w
			expectRow(t, "not looked at", s, with, h-1, want, api.OK)
		}
		all, _ := s.rows(0, h)
		if got, e := All(s.n, s.in, [2][]int8{s.data[0], {1, 2, 3}}); !slices.Equal(got, all) || e != api.OK {
			t.Errorf("%s: %v, %d, not %v", s.name, got, e, all)
		}
	}
}

func TestAllIsEachRow(t *testing.T) {
	for _, s := range samples() {
		var rows []int8
		for r := range s.made().Shape.H {
			row, e := Row(s.n, s.in, s.windows(r, 0), r)
			if e != api.OK || len(row) != s.made().Shape.W*s.made().Shape.C {
				t.Fatalf("%s: row %d has %d numbers, %d", s.name, r, len(row), e)
			}
			rows = append(rows, row...)
		}
		if all, e := All(s.n, s.in, s.data); !slices.Equal(all, rows) || e != api.OK {
			t.Errorf("%s: %v, %d, not %v", s.name, all, e, rows)
		}
	}
}

func TestAllOfTooManyOrTooFew(t *testing.T) {
	for _, s := range samples() {
		for i, v := range s.in {
			row := v.Shape.W * v.Shape.C
			for _, many := range []int{0, 1, size(v) - row, size(v) - 1, size(v) + 1, size(v) + row, 2 * size(v)} {
				if many == size(v) {
					continue
				}
				with := s.data
				with[i] = make([]int8, many)
				if l, e := All(s.n, s.in, with); len(l) != 0 || e != api.ErrArg {
					t.Errorf("%s of %d numbers, not %d: %v, %d", s.name, many, size(v), l, e)
				}
			}
			with := s.data
			with[i] = nil
			if l, e := All(s.n, s.in, with); len(l) != 0 || e != api.ErrArg {
				t.Errorf("%s of nil: %v, %d", s.name, l, e)
			}
		}
	}
}

// P5.4

// A row stays as it is, whatever stands in the rows that it does not need.
func TestRowHangsOnWhatIsNeeded(t *testing.T) {
	for _, s := range samples() {
		for r := range s.made().Shape.H {
			want, _ := s.rows(r, 1)
			needs, _ := Needs(s.n, s.in, r, 1)
			w := s.wholes()
			for i, v := range s.in {
				row := v.Shape.W * v.Shape.C
				for at := range w[i].V {
					if at < needs[i][0]*row || at >= needs[i][1]*row {
						w[i].V[at] ^= 0x55
					}
				}
			}
			expectRow(t, "other rows turned", s, w, r, want, api.OK)
		}
	}
}

// Each row that is needed makes a difference: else nothing would hang on it.
func TestRowHangsOnEachRowThatIsNeeded(t *testing.T) {
	v := value(5, 1, 1, 0)
	sum := func(k, stride, pad int) sample {
		n := api.Node{Op: api.OpConv, K: k, Stride: stride, Pad: pad, Out: 1, Mul: 1, W: slices.Repeat([]int8{1}, k*k), B: []int32{0}}
		return sample{name: "OpConv", n: n, in: one(v), data: [2][]int8{{1, 2, 3, 4, 5}}}
	}
	for _, s := range []sample{sum(3, 1, 1), sum(3, 2, 1), sum(2, 1, 1), sum(2, 2, 1), sum(1, 1, 0), sum(1, 2, 0)} {
		for r := range s.made().Shape.H {
			was, _ := s.rows(r, 1)
			needs, _ := Needs(s.n, s.in, r, 1)
			for y := needs[0][0]; y < needs[0][1]; y++ {
				w := s.wholes()
				w[0].V[y] += 50
				if got, e := Row(s.n, s.in, w, r); slices.Equal(got, was) || e != api.OK {
					t.Errorf("row %d of %+v does not hang on row %d: %v, %d", r, s.n, y, got, e)
				}
			}
		}
	}
}

// R7

func TestNothingIsChangedOrKept(t *testing.T) {
	for _, s := range samples() {
		n, in, w, data := s.n, slices.Clone(s.in), s.wholes(), [2][]int8{slices.Clone(s.data[0]), slices.Clone(s.data[1])}
		n.W, n.B = slices.Clone(n.W), slices.Clone(n.B)
		row, _ := Row(s.n, s.in, w, 0)
		all, _ := All(s.n, s.in, s.data)
		wantRow, wantAll := slices.Clone(row), slices.Clone(all)
		for i := range row {
			row[i]++
		}
		for i := range all {
			all[i]++
		}
		if !reflect.DeepEqual(n, s.n) || !slices.Equal(in, s.in) || !reflect.DeepEqual(w, s.wholes()) || !slices.Equal(data[0], s.data[0]) || !slices.Equal(data[1], s.data[1]) {
			t.Errorf("%s %+v: what was handed in is another", s.name, s.n)
		}
		again, _ := Row(s.n, s.in, w, 0)
		allAgain, _ := All(s.n, s.in, s.data)
		if !slices.Equal(again, wantRow) || !slices.Equal(allAgain, wantAll) {
			t.Errorf("%s %+v: asked again it answers otherwise", s.name, s.n)
		}
	}
}

// The room behind a window's numbers is neither read nor written.
func TestRoomBehindTheNumbers(t *testing.T) {
	for _, s := range ofEach() {
		want, _ := s.rows(0, 1)
		w := s.wholes()
		var rooms [2][]int8
		for i := range s.in {
			many := len(w[i].V)
			rooms[i] = append(slices.Clone(w[i].V), slices.Repeat([]int8{77}, 200)...)
			w[i].V = rooms[i][:many]
		}
		expectRow(t, "room behind", s, w, 0, want, api.OK)
		for i := range s.in {
			if slices.ContainsFunc(rooms[i][len(w[i].V):], func(x int8) bool { return x != 77 }) {
				t.Errorf("%s: the room behind value %d was written", s.name, i)
			}
			w[i].V = w[i].V[:len(w[i].V)-1]
			expectRow(t, "a number in the room", s, w, 0, nil, api.ErrArg)
			w[i].V = w[i].V[:len(w[i].V)+1]
		}
	}
}
