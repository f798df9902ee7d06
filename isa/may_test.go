package isa

import (
	"math"
	"slices"
	"testing"

	"quilt/api"
)

// asks holds May against want.
func asks(t *testing.T, what string, c api.Cmd, want api.Errno) {
	t.Helper()
	if e := May(c); e != want {
		t.Errorf("%s: May of %+v: %d, not %d", what, c, e, want)
	}
}

// P8.1

func TestCommandsThatMayBe(t *testing.T) {
	for _, c := range slices.Concat(short(), every()) {
		asks(t, "may be", c, api.OK)
	}
	for _, c := range []api.Cmd{
		{Kind: api.CmHalt}, {Kind: api.CmWait}, {Kind: api.CmSignal}, {Kind: api.CmKernel, Rows: 1},
		{Kind: api.CmLoad, Rows: 1, Row: 1}, {Kind: api.CmStore, Rows: 1, Row: 1}, {Kind: api.CmTile, Rows: 1},
		// What goes beyond a memory, or a value, only all fields together tell: May looks at each alone.
		{Kind: api.CmLoad, Rows: 16, Row: 128, Dram: 65535, Pad: 1023},
		{Kind: api.CmTile, First: 15, Rows: 16, Pad: 1023, In: [2]int{1023, 1023}, Base: [2]int{15, 15}, Have: [2]int{16, 16}},
	} {
		asks(t, "may be", c, api.OK)
	}
}

func TestEachFieldAtItsBounds(t *testing.T) {
	for kind, limits := range kinds() {
		for _, c := range some(kind) {
			for _, l := range limits {
				what := names()[l.part]
				asks(t, what+" at its least", with(c, l.part, l.least), api.OK)
				asks(t, what+" at its greatest", with(c, l.part, l.most), api.OK)
				asks(t, what+" one below", with(c, l.part, l.least-1), api.ErrArg)
				asks(t, what+" one beyond", with(c, l.part, l.most+1), api.ErrArg)
				for _, x := range far() {
					asks(t, what+" far out", with(c, l.part, x), api.ErrArg)
				}
			}
		}
	}
}

func TestEachFieldWithinItsBounds(t *testing.T) {
	for kind, limits := range kinds() {
		for _, l := range limits {
			for x := l.least - 300; x <= l.most+300; x++ {
				want := api.OK
				if x < l.least || x > l.most {
					want = api.ErrArg
				}
				asks(t, names()[l.part], with(least(kind), l.part, x), want)
			}
		}
	}
}

func TestFieldsThatAreNotTold(t *testing.T) {
	for kind, limits := range kinds() {
		for p := range parts {
			if slices.ContainsFunc(limits, func(l limit) bool { return l.part == p }) {
				continue
			}
			for _, c := range some(kind) {
				asks(t, names()[p]+" 0", with(c, p, 0), api.OK)
				for _, x := range append(far(), 1, 2, 7, 15, 16, 128, 256, 1023) {
					asks(t, names()[p]+" not told", with(c, p, x), api.ErrArg)
				}
			}
		}
	}
}

func TestTwoFieldsThatAreWrong(t *testing.T) {
	for _, c := range every() {
		for p := range parts {
			for q := range p {
				asks(t, names()[p]+" and "+names()[q], with(with(c, p, -1), q, -1), api.ErrArg)
				asks(t, names()[p]+" and "+names()[q], with(with(c, p, 1<<30), q, -1<<30), api.ErrArg)
			}
		}
	}
}

func TestKindsThatAreNone(t *testing.T) {
	none := []int{0, 8, 9, -1, -7, 255, 256, 257, 263, 1<<32 + 7, math.MaxInt, math.MinInt}
	for _, kind := range none {
		asks(t, "no kind", api.Cmd{Kind: kind}, api.ErrArg)
		for _, c := range every() {
			c.Kind = kind
			asks(t, "no kind", c, api.ErrArg)
		}
	}
}

// A command that may be, of another kind: it may be, if that one has all of its fields that are not 0.
func TestFieldsOfOtherKinds(t *testing.T) {
	for _, c := range every() {
		for kind := range kinds() {
			was := c.Kind
			c.Kind = kind
			want := api.ErrArg
			if may(c) {
				want = api.OK
			}
			asks(t, "another kind", c, want)
			c.Kind = was
		}
	}
}

func TestManyCommands(t *testing.T) {
	d := dice(8)
	there := 0
	for range 200000 {
		c := d.cmd(1 + d.below(7))
		for range d.below(3) {
			l := []int{-1, 0, 1, 7, 8, 11, 12, 15, 16, 17, 128, 129, 1023, 1024, 65535, 65536}
			*at(&c, part(d.below(int(parts)))) = l[d.below(len(l))]
		}
		if d.below(20) == 0 {
			c.Kind = d.below(10)
		}
		want := api.ErrArg
		if may(c) {
			want = api.OK
			there++
		}
		asks(t, "by dice", c, want)
	}
	if there < 50000 || there > 150000 {
		t.Errorf("%d may be", there)
	}
}

// P8.3

func TestSteps(t *testing.T) {
	for many := 1; many <= 16; many++ {
		for kind := 1; kind <= 4; kind++ {
			for _, c := range some(kind) {
				if n := Steps(with(c, rows, many)); n != many {
					t.Errorf("Steps of kind %d, %d rows: %d", kind, many, n)
				}
			}
		}
	}
	for kind := 5; kind <= 7; kind++ {
		for _, c := range some(kind) {
			if n := Steps(c); n != 1 {
				t.Errorf("Steps of kind %d: %d", kind, n)
			}
		}
	}
}

// Of commands that may not be the chapter says the same: Rows of four kinds, of all others 1.
func TestStepsOfCommandsThatMayNotBe(t *testing.T) {
	for _, many := range append(far(), 0, 17, 129) {
		for kind := -2; kind <= 300; kind++ {
			want := 1
			if kind >= 1 && kind <= 4 {
				want = many
			}
			c := api.Cmd{Kind: kind, Sem: 3, Node: 4, First: 5, Rows: many, Row: 6, Dram: 7, Pad: 8, In: [2]int{9, 10}, Base: [2]int{11, 12}, Have: [2]int{13, 14}}
			if n := Steps(c); n != want {
				t.Errorf("Steps of kind %d, %d rows: %d", kind, many, n)
			}
		}
	}
	for _, kind := range []int{math.MinInt, math.MaxInt, 1<<32 + 1} {
		if n := Steps(api.Cmd{Kind: kind, Rows: 5}); n != 1 {
			t.Errorf("Steps of kind %d: %d", kind, n)
		}
	}
}
