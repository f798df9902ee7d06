package isa

import (
	"bytes"
	"slices"
	"testing"

	"quilt/api"
)

// put is Put of commands that may be.
func put(t *testing.T, l []api.Cmd) []byte {
	t.Helper()
	b, e := Put(l)
	if e != api.OK {
		t.Fatalf("Put of %s tells %d", cut(l), e)
	}
	return b
}

// isNotPut asks that beside the error nothing is told.
func isNotPut(t *testing.T, what string, l []api.Cmd, want api.Errno) {
	t.Helper()
	if b, e := Put(l); len(b) != 0 || e != want {
		t.Errorf("%s: Put: %d bytes, %d, not %d", what, len(b), e, want)
	}
}

// P8.2: Put

func TestTheChaptersExample(t *testing.T) {
	l := []api.Cmd{{Kind: api.CmWait, Sem: 3}, {Kind: api.CmHalt}}
	if b := put(t, l); !bytes.Equal(b, []byte{0, 2, 5, 3, 7}) {
		t.Errorf("Put: %v", b)
	}
	if again, n, e := Take([]byte{0, 2, 5, 3, 7}); !slices.Equal(again, l) || n != 5 || e != api.OK {
		t.Errorf("Take: %+v, %d, %d", again, n, e)
	}
}

func TestBytesOfCommands(t *testing.T) {
	for _, x := range []struct {
		c    api.Cmd
		want []byte
	}{
		{least(1), []byte{1, 1, 0, 1, 0, 0, 0, 0, 0}},
		{most(1), []byte{1, 16, 0, 128, 0, 255, 255, 3, 255}},
		{api.Cmd{Kind: api.CmLoad, Rows: 2, Row: 3, Dram: 10, Pad: 4}, []byte{1, 2, 0, 3, 0, 0, 10, 0, 4}},
		{least(2), []byte{2, 1, 0, 1, 0, 0, 0, 0, 0}},
		{most(2), []byte{2, 16, 0, 128, 0, 255, 255, 3, 255}},
		{api.Cmd{Kind: api.CmStore, Rows: 5, Row: 127, Dram: 256, Pad: 256}, []byte{2, 5, 0, 127, 0, 1, 0, 1, 0}},
		{least(3), []byte{3, 0, 0, 1, 0, 0, 0, 0, 0, 0, 0, 0, 0, 0}},
		{most(3), []byte{3, 11, 15, 16, 3, 255, 3, 255, 15, 16, 3, 255, 15, 16}},
		{api.Cmd{Kind: api.CmTile, Node: 1, First: 2, Rows: 3, Pad: 0x0104, In: [2]int{0x0205, 0x0306}, Base: [2]int{7, 8}, Have: [2]int{9, 10}}, []byte{3, 1, 2, 3, 1, 4, 2, 5, 7, 9, 3, 6, 8, 10}},
		{least(4), []byte{4, 0, 1}}, {most(4), []byte{4, 11, 16}}, {api.Cmd{Kind: api.CmKernel, Node: 2, Rows: 3}, []byte{4, 2, 3}},
		{least(5), []byte{5, 0}}, {most(5), []byte{5, 7}}, {api.Cmd{Kind: api.CmWait, Sem: 4}, []byte{5, 4}},
		{least(6), []byte{6, 0}}, {most(6), []byte{6, 7}}, {api.Cmd{Kind: api.CmSignal, Sem: 1}, []byte{6, 1}},
		{api.Cmd{Kind: api.CmHalt}, []byte{7}},
	} {
		if b := put(t, []api.Cmd{x.c}); !bytes.Equal(b, append([]byte{0, 1}, x.want...)) {
			t.Errorf("Put of %+v: %v, not %v", x.c, b, x.want)
		}
		if b := put(t, []api.Cmd{x.c, x.c}); !bytes.Equal(b, slices.Concat([]byte{0, 2}, x.want, x.want)) {
			t.Errorf("Put of %+v, two times: %v, not %v", x.c, b, x.want)
		}
	}
}

func TestBytesOfStreams(t *testing.T) {
	for _, l := range [][]api.Cmd{nil, {}} {
		if b := put(t, l); !bytes.Equal(b, []byte{0, 0}) {
			t.Errorf("Put of no commands: %v", b)
		}
	}
	if b := put(t, short()); !bytes.Equal(b, shortBytes()) {
		t.Errorf("Put: %v, not %v", b, shortBytes())
	}
}

// wanted are the bytes that the chapter says, number by number.
func wanted(l []api.Cmd) []byte {
	b := []byte{byte(len(l) / 256), byte(len(l) % 256)}
	for _, c := range l {
		b = append(b, byte(c.Kind))
		for _, x := range kinds()[c.Kind] {
			number := *at(&c, x.part)
			l := []byte{byte(number / 65536), byte(number / 256 % 256), byte(number % 256)}
			b = append(b, l[3-x.wide:]...)
		}
	}
	return b
}

func TestBytesOfManyStreams(t *testing.T) {
	d := dice(2)
	l := [][]api.Cmd{every()}
	for many := range 300 {
		l = append(l, d.stream(many))
	}
	for _, s := range l {
		if b := put(t, s); !bytes.Equal(b, wanted(s)) {
			t.Errorf("Put of %s: %s, not %s", cut(s), cut(b), cut(wanted(s)))
		}
	}
}

func TestHowManyCommands(t *testing.T) {
	for _, x := range []struct {
		many int
		want []byte
	}{{1, []byte{0, 1}}, {255, []byte{0, 255}}, {256, []byte{1, 0}}, {257, []byte{1, 1}}, {4095, []byte{15, 255}}, {4096, []byte{16, 0}}} {
		halts := slices.Repeat([]api.Cmd{{Kind: api.CmHalt}}, x.many)
		if b := put(t, halts); !bytes.Equal(b, append(x.want, bytes.Repeat([]byte{7}, x.many)...)) {
			t.Errorf("Put of %d: %d bytes, %v", x.many, len(b), b[:2])
		}
		d := dice(x.many)
		l := d.stream(x.many)
		if b := put(t, l); !bytes.Equal(b, wanted(l)) {
			t.Errorf("Put of %d: %d bytes, not %d", x.many, len(b), len(wanted(l)))
		}
	}
	for _, many := range []int{4097, 4098, 8192, 65535, 65536, 65537, 65536 + 4096} {
		isNotPut(t, "too many", slices.Repeat([]api.Cmd{{Kind: api.CmHalt}}, many), api.ErrBig)
		// All of them may not be: there are too many, that comes first.
		isNotPut(t, "too many that may not be", make([]api.Cmd, many), api.ErrBig)
	}
	isNotPut(t, "as many as may be, that may not be", make([]api.Cmd, 4096), api.ErrArg)
}

func TestCommandsThatMayNotBe(t *testing.T) {
	wrong := []api.Cmd{{}, {Kind: 8}, {Kind: 256 + api.CmHalt}, {Kind: -1}, {Kind: api.CmHalt, Sem: 1}, {Kind: api.CmWait, Sem: 8}, {Kind: api.CmWait, Sem: 256}, {Kind: api.CmKernel}, {Kind: api.CmTile, Rows: 17}, {Kind: api.CmLoad, Rows: 1, Row: 1, Pad: 1024}, {Kind: api.CmStore, Rows: 1, Row: 1, Dram: 65536}, {Kind: api.CmStore, Rows: 1, Row: 1, Dram: 1 << 24}, {Kind: api.CmStore, Rows: 1, Row: 1, Dram: -1}}
	for _, c := range wrong {
		isNotPut(t, "alone", []api.Cmd{c}, api.ErrArg)
		for i := range len(short()) + 1 {
			isNotPut(t, "among others", slices.Insert(short(), i, c), api.ErrArg)
			isNotPut(t, "with one behind", slices.Insert(short(), i, c, wrong[i]), api.ErrArg)
		}
		isNotPut(t, "the last one of all", append(slices.Repeat([]api.Cmd{{Kind: api.CmHalt}}, 4095), c), api.ErrArg)
	}
	for kind, limits := range kinds() {
		for _, l := range limits {
			for _, x := range append(far(), l.least-1, l.most+1) {
				isNotPut(t, names()[l.part], []api.Cmd{with(most(kind), l.part, x)}, api.ErrArg)
			}
		}
	}
}
