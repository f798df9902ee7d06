package sum

import (
	"bytes"
	"slices"
	"testing"

	"quilt/api"
)

// R6, R7

func TestAskedAgain(t *testing.T) {
	sum, sealed, opened := Sum([]byte("quilt")), Seal([]byte("quilt")), []byte("quilt")
	for _, b := range bodies() {
		Sum(b)
		Seal(b)
		Open(b)
		if r := Sum([]byte("quilt")); r != sum {
			t.Fatalf("Sum: %08X, then %08X", sum, r)
		}
		if s := Seal([]byte("quilt")); !bytes.Equal(s, sealed) {
			t.Fatalf("Seal: %s, then %s", short(sealed), short(s))
		}
		opens(t, "again", sealed, opened)
		refused(t, "again", sealed[1:])
	}
}

// roomy is b with so many bytes of 77 in the room behind its end.
func roomy(b []byte, many int) []byte {
	return slices.Concat(b, bytes.Repeat([]byte{77}, many))[: len(b) : len(b)+many]
}

// Each call, of bytes with no room, some, or much behind: neither they nor the room are changed, and the answer does not hang on it.
func TestWhatWasHandedInStaysAsItWas(t *testing.T) {
	for _, body := range [][]byte{{}, {1}, []byte("123456789"), spread(3, 100), Seal(nil), Seal([]byte("123456789")), Seal(spread(4, 64))} {
		opened, e := Open(body)
		for _, many := range []int{0, 1, 3, 4, 5, 200} {
			b := roomy(body, many)
			asWas := slices.Clone(b[:cap(b)])
			if r := Sum(b); r != Sum(body) {
				t.Errorf("Sum of %s with room for %d: %08X", short(body), many, r)
			}
			if s := Seal(b); !bytes.Equal(s, Seal(body)) {
				t.Errorf("Seal of %s with room for %d: %s", short(body), many, short(s))
			}
			if l, err := Open(b); !bytes.Equal(l, opened) || err != e {
				t.Errorf("Open of %s with room for %d: %s, %d", short(body), many, short(l), err)
			}
			if !bytes.Equal(b[:cap(b)], asWas) {
				t.Errorf("%s with room for %d became %s", short(asWas), many, short(b[:cap(b)]))
			}
		}
	}
}

func TestWhatIsToldIsOnesOwn(t *testing.T) {
	for _, many := range []int{0, 1, 4, 9, 1000} {
		body := roomy(spread(many, many), 20)
		sealed, again := Seal(body), Seal(body)
		opened, openedAgain := mustOpen(t, sealed), mustOpen(t, sealed)
		want, wantBody := slices.Clone(again), slices.Clone(body)
		// What was told is changed, with the room behind it: nothing else is.
		fill(opened)
		if !bytes.Equal(openedAgain, wantBody) || !bytes.Equal(sealed, want) {
			t.Errorf("%d bytes: what Open told is shared", many)
		}
		fill(sealed)
		if !bytes.Equal(again, want) || !bytes.Equal(body, wantBody) || !bytes.Equal(openedAgain, wantBody) {
			t.Errorf("%d bytes: what Seal told is shared", many)
		}
		// What was handed in is changed: what was told is not.
		fill(body)
		if !bytes.Equal(again, want) || !bytes.Equal(openedAgain, wantBody) {
			t.Errorf("%d bytes: what was handed in is shared", many)
		}
	}
}

func mustOpen(t *testing.T, b []byte) []byte {
	t.Helper()
	l, e := Open(b)
	if e != api.OK {
		t.Fatalf("Open of %s: %d", short(b), e)
	}
	return l
}

func fill(b []byte) {
	b = b[:cap(b)]
	for i := range b {
		b[i] ^= 0xA5
	}
}
