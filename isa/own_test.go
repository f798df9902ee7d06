package isa

import (
	"bytes"
	"slices"
	"testing"

	"quilt/api"
)

// R6, R7

// roomy is l with so many of x in the room behind its end.
func roomy[T any](l []T, x T, many int) []T {
	return slices.Concat(l, slices.Repeat([]T{x}, many))[: len(l) : len(l)+many]
}

func TestPutLeavesTheCommands(t *testing.T) {
	for _, l := range [][]api.Cmd{{}, {{Kind: api.CmHalt}}, short(), every(), {{}}, append(short(), api.Cmd{Kind: 8}), make([]api.Cmd, 5000)} {
		want, e := Put(l)
		for _, many := range []int{0, 1, 5, 300} {
			given := roomy(l, api.Cmd{Kind: api.CmWait, Sem: 5}, many)
			before := slices.Clone(given[:cap(given)])
			if b, err := Put(given); !bytes.Equal(b, want) || err != e {
				t.Errorf("Put of %d with room for %d: %s, %d, not %s, %d", len(l), many, cut(b), err, cut(want), e)
			}
			if !slices.Equal(given[:cap(given)], before) {
				t.Errorf("Put of %d with room for %d changes them", len(l), many)
			}
		}
	}
}

func TestTakeLeavesTheBytes(t *testing.T) {
	for _, b := range [][]byte{{}, {0}, {0, 0}, {0, 1}, {0, 1, 5}, {0, 1, 5, 8}, shortBytes(), shortBytes()[:20], put(t, every())} {
		want, size, e := Take(b)
		for _, many := range []int{0, 1, 5, 300} {
			for _, c := range []byte{0, 1, 7, 255} {
				given := roomy(b, c, many)
				before := bytes.Clone(given[:cap(given)])
				if l, n, err := Take(given); !slices.Equal(l, want) || n != size || err != e {
					t.Errorf("Take of %s with room for %d: %s, %d, %d", cut(b), many, cut(l), n, err)
				}
				if !bytes.Equal(given[:cap(given)], before) {
					t.Errorf("Take of %s with room for %d changes them", cut(b), many)
				}
			}
		}
	}
}

func TestWhatIsToldIsOnesOwn(t *testing.T) {
	for _, was := range [][]api.Cmd{{{Kind: api.CmHalt}}, short(), every()} {
		given := slices.Clone(was)
		b, other := put(t, given), put(t, given)
		want := bytes.Clone(b)
		l, _, _ := Take(b)
		again, _, _ := Take(b)
		// What was handed in is changed: what was told is not.
		clear(given)
		if !bytes.Equal(b, want) || !bytes.Equal(other, want) {
			t.Errorf("what was handed to Put is kept")
		}
		clear(b[:cap(b)])
		if !slices.Equal(l, was) || !slices.Equal(again, was) || !bytes.Equal(other, want) {
			t.Errorf("what was handed to Take is kept, or what Put told is shared")
		}
		// What was told is changed, with the room behind it: nothing else is.
		clear(l[:cap(l)])
		if !slices.Equal(again, was) {
			t.Errorf("what Take told is shared")
		}
	}
}

func TestAskedAgain(t *testing.T) {
	l, wrong := short(), append(short(), api.Cmd{Kind: api.CmHalt, Rows: 1})
	for _, c := range every() {
		May(c)
		May(with(c, pad, -1))
		Steps(c)
		Put([]api.Cmd{c})
		Put(wrong)
		Take(put(t, every()))
		Take([]byte{0, 9, 7})
		asks(t, "again", l[3], api.OK)
		asks(t, "again", wrong[7], api.ErrArg)
		if b := put(t, l); !bytes.Equal(b, shortBytes()) {
			t.Fatalf("Put: %v", b)
		}
		isNotPut(t, "again", wrong, api.ErrArg)
		comesBack(t, "again", l)
		if n := Steps(l[3]); n != 16 {
			t.Fatalf("Steps: %d", n)
		}
	}
}
