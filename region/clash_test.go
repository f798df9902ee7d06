package region

import (
	"math"
	"slices"
	"testing"

	"quilt/api"
)

// meets holds Clash against want, from both sides.
func meets(t *testing.T, a, b []api.Span, want bool) {
	t.Helper()
	if x, y := Clash(a, b), Clash(b, a); x != want || y != want {
		t.Errorf("Clash of %+v and %+v: %v, from the other side %v, not %v", a, b, x, y, want)
	}
}

// common tells whether one of the numbers where a span begins is within both.
func common(x, y api.Span) bool {
	within := func(n int, s api.Span) bool { return n >= s.From && n < s.To }
	return slices.ContainsFunc([]int{x.From, y.From}, func(n int) bool { return within(n, x) && within(n, y) })
}

// clashes is what the chapter says of rows of spans.
func clashes(a, b []api.Span) bool {
	for _, x := range a {
		for _, y := range b {
			if x.Mem == y.Mem && (x.Write || y.Write) && common(x, y) {
				return true
			}
		}
	}
	return false
}

// P12.1: Clash

func TestSpansThatMeet(t *testing.T) {
	for _, x := range []struct {
		what string
		a, b api.Span
		want bool
	}{
		{"the chapter's example", r0(0, 4), w0(3, 5), true},
		{"the last number alone", w0(0, 4), r0(3, 9), true},
		{"the last number alone, written both", w1(0, 4), w1(3, 9), true},
		{"touch", w0(0, 4), r0(4, 9), false},
		{"touch, written both", w1(0, 4), w1(4, 9), false},
		{"apart", w0(0, 4), w0(6, 9), false},
		{"unlike memories", w0(0, 4), w1(0, 4), false},
		{"unlike memories, one read", w1(0, 4), r0(3, 5), false},
		{"read alone", r0(0, 4), r0(0, 4), false},
		{"read alone, in part", r1(0, 4), r1(2, 9), false},
		{"the same", w0(2, 4), w0(2, 4), true},
		{"the same, one read", r1(2, 4), w1(2, 4), true},
		{"one within the other", w0(0, 9), r0(3, 4), true},
		{"one within the other, which is read", r0(0, 9), w0(3, 4), true},
		{"one number", w1(3, 4), r1(3, 4), true},
		{"the same beginning", w0(2, 3), r0(2, 9), true},
		{"the same end", w0(8, 9), r0(2, 9), true},
		{"empty within", w0(3, 3), w0(0, 9), false},
		{"empty at the beginning", w0(0, 0), w0(0, 9), false},
		{"empty at the end", w0(9, 9), w0(0, 9), false},
		{"empty both", w0(3, 3), w0(3, 3), false},
		{"the whole memory", w0(0, 65536), r0(65535, 65536), true},
		{"the whole scratchpad", w1(0, 1024), r1(1023, 1024), true},
	} {
		if clashes([]api.Span{x.a}, []api.Span{x.b}) != x.want {
			t.Errorf("%s: the tests are at odds", x.what)
		}
		meets(t, []api.Span{x.a}, []api.Span{x.b}, x.want)
	}
}

// every are all spans of some numbers, such as may not be as well.
func every(numbers []int) []api.Span {
	var l []api.Span
	for _, mem := range []int{0, 1} {
		for _, from := range numbers {
			for _, to := range numbers {
				l = append(l, api.Span{Mem: mem, From: from, To: to}, api.Span{Mem: mem, From: from, To: to, Write: true})
			}
		}
	}
	return l
}

// Of small spans all numbers are gone through one by one.
func TestAllSmallSpans(t *testing.T) {
	l := every([]int{0, 1, 2, 3, 4, 5})
	there := 0
	for _, x := range l {
		for _, y := range l {
			want := false
			for n := x.From; n < x.To; n++ {
				if n >= y.From && n < y.To && x.Mem == y.Mem && (x.Write || y.Write) {
					want = true
				}
			}
			meets(t, []api.Span{x}, []api.Span{y}, want)
			if want {
				there++
			}
		}
	}
	if there < 500 {
		t.Errorf("%d meet", there)
	}
}

func TestSpansFarOut(t *testing.T) {
	l := every([]int{math.MinInt, math.MinInt + 1, -65536, -1, 0, 1, 1024, 65536, math.MaxInt32 + 1, math.MaxInt - 1, math.MaxInt})
	for _, x := range l {
		for _, y := range l {
			meets(t, []api.Span{x}, []api.Span{y}, clashes([]api.Span{x}, []api.Span{y}))
		}
	}
}

func TestRowsOfNone(t *testing.T) {
	for _, none := range [][]api.Span{nil, {}} {
		meets(t, none, nil, false)
		meets(t, none, []api.Span{}, false)
		meets(t, none, []api.Span{w0(0, 65536), w1(0, 1024)}, false)
	}
}

// Two of one row are not held against each other.
func TestSpansOfOneRow(t *testing.T) {
	a := []api.Span{w0(0, 9), w0(0, 9), r0(3, 4)}
	meets(t, a, nil, false)
	meets(t, a, []api.Span{w0(9, 20), w1(0, 9), r0(15, 20)}, false)
	meets(t, []api.Span{r0(0, 9), r0(0, 9)}, a[2:], false)
}

// One pair of many meets, wherever both stand.
func TestOnePairOfMany(t *testing.T) {
	for n := 1; n <= 5; n++ {
		for m := 1; m <= 5; m++ {
			for i := range n {
				for j := range m {
					var a, b []api.Span
					for k := range n {
						a = append(a, r0(10*k, 10*k+10))
					}
					for k := range m {
						b = append(b, w0(1000+10*k, 1010+10*k))
					}
					meets(t, a, b, false)
					b[j] = w0(10*i+9, 10*i+10)
					meets(t, a, b, true)
					b[j].Write = false
					meets(t, a, b, false)
					a[i].Write = true
					meets(t, a, b, true)
					a[i].Mem = 1
					meets(t, a, b, false)
				}
			}
		}
	}
}

func TestManyRows(t *testing.T) {
	d := dice(12)
	row := func() []api.Span {
		var l []api.Span
		for range d.below(5) {
			from := d.below(40)
			l = append(l, api.Span{Mem: d.below(2), From: from, To: from + d.below(8), Write: d.below(3) == 0})
		}
		return l
	}
	there := 0
	const rows = 100000
	for range rows {
		a, b := row(), row()
		want := clashes(a, b)
		meets(t, a, b, want)
		if want {
			there++
		}
	}
	if there < rows/10 || there > rows-rows/10 {
		t.Errorf("%d meet", there)
	}
}

// P12.4: what commands do, each held against each other one from both sides.
func TestCommandsThatMeet(t *testing.T) {
	for _, x := range []struct {
		a, b api.Cmd
		want bool
	}{
		// A load of what is stored: it meets the store in DRAM, and from another place in the scratchpad not in that one.
		{api.Cmd{Kind: api.CmLoad, Rows: 2, Row: 6, Dram: 1000, Pad: 0}, api.Cmd{Kind: api.CmStore, Rows: 1, Row: 1, Dram: 1011, Pad: 900}, true},
		{api.Cmd{Kind: api.CmLoad, Rows: 2, Row: 6, Dram: 1000, Pad: 0}, api.Cmd{Kind: api.CmStore, Rows: 1, Row: 1, Dram: 1012, Pad: 900}, false},
		{api.Cmd{Kind: api.CmLoad, Rows: 2, Row: 6, Dram: 1000, Pad: 0}, api.Cmd{Kind: api.CmStore, Rows: 1, Row: 1, Dram: 5000, Pad: 11}, true},
		{api.Cmd{Kind: api.CmLoad, Rows: 2, Row: 6, Dram: 1000, Pad: 0}, api.Cmd{Kind: api.CmStore, Rows: 1, Row: 1, Dram: 5000, Pad: 12}, false},
		// A tile of node 5 (rows of 6) and a load into one of its windows, or behind both.
		{api.Cmd{Kind: api.CmTile, Node: 5, Rows: 2, Pad: 100, In: [2]int{0, 50}, Have: [2]int{2, 2}}, api.Cmd{Kind: api.CmLoad, Rows: 1, Row: 10, Pad: 11}, true},
		{api.Cmd{Kind: api.CmTile, Node: 5, Rows: 2, Pad: 100, In: [2]int{0, 50}, Have: [2]int{2, 2}}, api.Cmd{Kind: api.CmLoad, Rows: 1, Row: 10, Pad: 61}, true},
		{api.Cmd{Kind: api.CmTile, Node: 5, Rows: 2, Pad: 100, In: [2]int{0, 50}, Have: [2]int{2, 2}}, api.Cmd{Kind: api.CmLoad, Rows: 1, Row: 10, Pad: 12}, false},
		// What a tile reads is stored: both read it.
		{api.Cmd{Kind: api.CmTile, Node: 5, Rows: 2, Pad: 100, In: [2]int{0, 50}, Have: [2]int{2, 2}}, api.Cmd{Kind: api.CmStore, Rows: 10, Row: 10, Pad: 0}, false},
		{api.Cmd{Kind: api.CmTile, Node: 5, Rows: 2, Pad: 100, In: [2]int{0, 50}, Have: [2]int{2, 2}}, api.Cmd{Kind: api.CmStore, Rows: 1, Row: 101, Pad: 0}, true},
		// A kernel of node 9 reads values 2 and 1 (60 from 300, 24 from 200), and writes 84 from 2000 on.
		{api.Cmd{Kind: api.CmKernel, Node: 9, Rows: 4}, api.Cmd{Kind: api.CmLoad, Rows: 4, Row: 21, Dram: 1916}, false},
		{api.Cmd{Kind: api.CmKernel, Node: 9, Rows: 4}, api.Cmd{Kind: api.CmLoad, Rows: 4, Row: 21, Dram: 2083}, true},
		{api.Cmd{Kind: api.CmKernel, Node: 9, Rows: 4}, api.Cmd{Kind: api.CmStore, Rows: 1, Row: 1, Dram: 359}, true},
		{api.Cmd{Kind: api.CmKernel, Node: 9, Rows: 4}, api.Cmd{Kind: api.CmStore, Rows: 1, Row: 1, Dram: 360}, false},
		{api.Cmd{Kind: api.CmKernel, Node: 9, Rows: 4}, api.Cmd{Kind: api.CmLoad, Rows: 1, Row: 100, Dram: 200}, false},
		{api.Cmd{Kind: api.CmKernel, Node: 9, Rows: 4}, api.Cmd{Kind: api.CmWait}, false},
	} {
		a, e := Of(woven(), x.a)
		b, err := Of(woven(), x.b)
		if e != api.OK || err != api.OK {
			t.Errorf("%+v, %+v: %d, %d", x.a, x.b, e, err)
		}
		meets(t, a, b, x.want)
	}
}
