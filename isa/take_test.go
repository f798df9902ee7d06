package isa

import (
	"bytes"
	"slices"
	"testing"

	"quilt/api"
)

// begins is how many bytes the commands have that b begins with, by the chapter's words; 0, if there are none.
func begins(b []byte) int {
	number := func(from, wide int) int {
		x := 0
		for _, c := range b[from : from+wide] {
			x = 256*x + int(c)
		}
		return x
	}
	if len(b) < 2 || number(0, 2) > 4096 {
		return 0
	}
	n, all := 2, kinds()
	for range number(0, 2) {
		if n >= len(b) {
			return 0
		}
		limits, there := all[int(b[n])]
		n++
		if !there {
			return 0
		}
		for _, l := range limits {
			if n+l.wide > len(b) {
				return 0
			}
			if x := number(n, l.wide); x < l.least || x > l.most {
				return 0
			}
			n += l.wide
		}
	}
	return n
}

// taken asks what holds of Take of any bytes, and tells whether there were commands.
func taken(t *testing.T, what string, b []byte) bool {
	t.Helper()
	l, n, e := Take(b)
	if n != begins(b) {
		t.Fatalf("%s: Take of %s: %d bytes, not %d", what, cut(b), n, begins(b))
	}
	if n == 0 {
		if len(l) != 0 || e != api.ErrCorrupt {
			t.Fatalf("%s: Take of %s: %s, %d", what, cut(b), cut(l), e)
		}
		return false
	}
	if e != api.OK {
		t.Fatalf("%s: Take of %s tells %d", what, cut(b), e)
	}
	if again, e := Put(l); e != api.OK || !bytes.Equal(again, b[:n]) {
		t.Fatalf("%s: %s taken, %s put, %d", what, cut(b[:n]), cut(again), e)
	}
	return true
}

func refused(t *testing.T, what string, b []byte) {
	t.Helper()
	if l, n, e := Take(b); len(l) != 0 || n != 0 || e != api.ErrCorrupt {
		t.Fatalf("%s: Take of %s: %s, %d, %d", what, cut(b), cut(l), n, e)
	}
}

// comesBack asks that commands are put, and taken as they were, with and without bytes behind them.
func comesBack(t *testing.T, what string, l []api.Cmd) {
	t.Helper()
	b := put(t, l)
	for _, behind := range [][]byte{nil, {0}, {7}, {255}, b, make([]byte, 100)} {
		again, n, e := Take(slices.Concat(b, behind))
		if e != api.OK || n != len(b) || !slices.Equal(again, l) {
			t.Fatalf("%s with %d behind: Take: %s, %d bytes of %d, %d", what, len(behind), cut(again), n, len(b), e)
		}
	}
}

// P8.2: Take

func TestTake(t *testing.T) {
	for _, behind := range [][]byte{nil, {0}, {7, 7, 7}, shortBytes(), make([]byte, 1000)} {
		l, n, e := Take(slices.Concat(shortBytes(), behind))
		if e != api.OK || n != len(shortBytes()) || !slices.Equal(l, short()) {
			t.Errorf("Take with %d behind: %s, %d, %d", len(behind), cut(l), n, e)
		}
		l, n, e = Take(slices.Concat([]byte{0, 0}, behind))
		if e != api.OK || n != 2 || len(l) != 0 {
			t.Errorf("Take of no commands with %d behind: %s, %d, %d", len(behind), cut(l), n, e)
		}
	}
}

func TestNoBytes(t *testing.T) {
	refused(t, "nil", nil)
	refused(t, "empty", []byte{})
	for c := range 256 {
		refused(t, "one byte", []byte{byte(c)})
		if c != 0 {
			refused(t, "a count alone", []byte{0, byte(c)})
			refused(t, "a count alone", []byte{byte(c), 0})
		}
		// Bytes of a kind alone are commands of it, if its fields may be that number: of 1 and 2 Row is too great.
		again := bytes.Repeat([]byte{byte(c)}, 70000)
		if taken(t, "one byte again and again", again) != (c == 0 || c >= 3 && c <= 7) {
			t.Errorf("%d again and again", c)
		}
	}
}

// What is cut off stands in the room behind: it is not looked at.
func TestBytesCutAnywhere(t *testing.T) {
	for _, l := range [][]api.Cmd{short(), every()} {
		b := put(t, l)
		for i := range b {
			refused(t, "cut at the end", b[:i])
			refused(t, "cut, without room", bytes.Clone(b[:i]))
			taken(t, "cut at the front", b[i:])
		}
	}
	for _, c := range every() {
		b := put(t, []api.Cmd{c})
		for i := range b {
			refused(t, "cut at the end", b[:i])
		}
	}
}

func TestCounts(t *testing.T) {
	b, halts := shortBytes(), bytes.Repeat([]byte{7}, 70000)
	for many := range 1 << 16 {
		b[0], b[1] = byte(many>>8), byte(many)
		l, n, e := Take(b)
		if many > 7 {
			if len(l) != 0 || n != 0 || e != api.ErrCorrupt {
				t.Fatalf("%d of 7 commands: %s, %d, %d", many, cut(l), n, e)
			}
			continue
		}
		if e != api.OK || !slices.Equal(l, short()[:many]) || n != len(put(t, l)) {
			t.Fatalf("%d of 7 commands: %s, %d, %d", many, cut(l), n, e)
		}
	}
	for _, many := range []int{0, 1, 255, 256, 4095, 4096} {
		l, n, e := Take(slices.Concat([]byte{byte(many >> 8), byte(many)}, halts))
		if e != api.OK || n != 2+many || !slices.Equal(l, slices.Repeat([]api.Cmd{{Kind: api.CmHalt}}, many)) {
			t.Errorf("%d halts: %d, %d, %d", many, len(l), n, e)
		}
	}
	// Bytes enough are behind these: there are too many.
	for _, many := range []int{4097, 4098, 8191, 8192, 1 << 15, 65535} {
		if l, n, e := Take(slices.Concat([]byte{byte(many >> 8), byte(many)}, halts)); len(l) != 0 || n != 0 || e != api.ErrCorrupt {
			t.Errorf("%d halts: %d, %d, %d", many, len(l), n, e)
		}
	}
}

func TestBytesOfKindsThatAreNone(t *testing.T) {
	for c := range 256 {
		for _, behind := range [][]byte{nil, make([]byte, 20), bytes.Repeat([]byte{1}, 20), bytes.Repeat([]byte{7}, 20)} {
			for _, ahead := range [][]byte{{0, 1}, {0, 2, 7}, {0, 3, 5, 1, 4, 0, 1}} {
				b := slices.Concat(ahead, []byte{byte(c)}, behind)
				if c < 1 || c > 7 {
					refused(t, "no kind", b)
				}
				taken(t, "any kind", b)
			}
		}
	}
}

// Each number that a field's bytes can be, or of the widest those near its bounds.
func TestBytesOfFieldsOutOfBounds(t *testing.T) {
	for kind, limits := range kinds() {
		from := 3
		for _, l := range limits {
			x, end := 0, 1<<(8*l.wide)
			for x < end {
				b := put(t, []api.Cmd{most(kind)})
				copy(b[from:], []byte{byte(x >> 16), byte(x >> 8), byte(x)}[3-l.wide:])
				got, n, e := Take(append(b, 9))
				if x < l.least || x > l.most {
					if len(got) != 0 || n != 0 || e != api.ErrCorrupt {
						t.Fatalf("%s %d: %+v, %d, %d", names()[l.part], x, got, n, e)
					}
				} else if e != api.OK || n != len(b) || got[0] != with(most(kind), l.part, x) {
					t.Fatalf("%s %d: %+v, %d, %d", names()[l.part], x, got, n, e)
				}
				if x > 70000 && x < end-300 {
					x += 9973
				}
				x++
			}
			from += l.wide
		}
	}
}

func TestTheLastOfManyIsWrong(t *testing.T) {
	for _, last := range [][]byte{{0}, {8}, {5, 8}, {6}, {4, 12, 1}, {4, 0, 0}, {1, 1, 0, 1, 1, 0, 0, 0, 0}} {
		for _, many := range []int{1, 2, 7, 300, 4096} {
			b := slices.Concat([]byte{byte(many >> 8), byte(many)}, bytes.Repeat([]byte{7}, many-1), last)
			refused(t, "the last one", b)
		}
	}
}

func TestOneByteTurned(t *testing.T) {
	there := 0
	var bounds []api.Cmd
	for kind := range 7 {
		bounds = append(bounds, least(1+kind), most(1+kind))
	}
	for _, l := range [][]api.Cmd{short(), bounds} {
		b := put(t, l)
		for i, was := range b {
			for c := range 256 {
				b[i] = byte(c)
				if !taken(t, "one turned", b) {
					continue
				}
				there++
				if again, _, _ := Take(b); slices.Equal(again, l) != (byte(c) == was) {
					t.Fatalf("byte %d, %d to %d: the same commands: %v", i, was, c, slices.Equal(again, l))
				}
			}
			b[i] = was
		}
	}
	if there < 1000 {
		t.Errorf("%d streams alone", there)
	}
}

func TestBytesByDice(t *testing.T) {
	d := dice(5)
	there := 0
	for range 100000 {
		b := []byte{0}
		for range d.below(40) {
			b = append(b, byte(d.below(1+d.below(9))))
		}
		if taken(t, "by dice", b) {
			there++
		}
		l := d.stream(1 + d.below(6))
		b = put(t, l)
		for range 1 + d.below(3) {
			switch i := d.below(len(b)); d.below(4) {
			case 0:
				b = slices.Delete(b, i, i+1)
			case 1:
				b = slices.Insert(b, i, byte(d.below(20)))
			default:
				b[i] = byte(d.below(20))
			}
		}
		if taken(t, "turned by dice", b) {
			there++
		}
	}
	if there < 10000 {
		t.Errorf("%d streams alone", there)
	}
}

// P8.4

func TestWhatWasPutIsTakenAsItWas(t *testing.T) {
	comesBack(t, "none", nil)
	comesBack(t, "short", short())
	comesBack(t, "every", every())
	for _, c := range every() {
		comesBack(t, "one", []api.Cmd{c})
	}
	for kind, limits := range kinds() {
		for _, l := range limits {
			for x := l.least; x <= l.most; x += 1 + (l.most-l.least)/500 {
				comesBack(t, names()[l.part], []api.Cmd{with(most(kind), l.part, x), with(least(kind), l.part, x)})
			}
		}
	}
	d := dice(1)
	for many := range 500 {
		comesBack(t, "by dice", d.stream(many))
	}
	comesBack(t, "as many as may be", d.stream(api.MaxCmds))
	comesBack(t, "as many of the longest", slices.Repeat([]api.Cmd{most(api.CmTile)}, api.MaxCmds))
}

func TestStreamsBehindEachOther(t *testing.T) {
	d := dice(6)
	var all []byte
	var streams [][]api.Cmd
	for many := range 60 {
		streams = append(streams, d.stream(many))
		all = append(all, put(t, streams[many])...)
	}
	for _, want := range streams {
		l, n, e := Take(all)
		if e != api.OK || !slices.Equal(l, want) {
			t.Fatalf("Take: %s, %d, not %s", cut(l), e, cut(want))
		}
		all = all[n:]
	}
	if len(all) != 0 {
		t.Errorf("%d bytes are left", len(all))
	}
}

// What is taken of bytes is put as the same ones: so no two rows of bytes are of the same commands.
func TestUnlikeStreamsHaveUnlikeBytes(t *testing.T) {
	d := dice(3)
	l := [][]api.Cmd{nil, short(), every(), short()[:3]}
	for _, c := range every() {
		l = append(l, []api.Cmd{c}, []api.Cmd{c, c})
	}
	for i := range 60 {
		l = append(l, d.stream(i%5))
	}
	for _, a := range l {
		for _, b := range l {
			if bytes.Equal(put(t, a), put(t, b)) != slices.Equal(a, b) {
				t.Errorf("%s and %s", cut(a), cut(b))
			}
			if bytes.HasPrefix(put(t, a), put(t, b)) != slices.Equal(a, b) {
				t.Errorf("%s begins as %s", cut(a), cut(b))
			}
		}
	}
}
