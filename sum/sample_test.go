package sum

import (
	"bytes"
	"math/bits"
	"slices"
	"testing"

	"quilt/api"
)

// dice are numbers by a rule: the same in each run.
type dice uint64

func (d *dice) next() uint32 {
	*d = *d*6364136223846793005 + 1442695040888963407
	return uint32(*d >> 32)
}

// spread are so many bytes, the same ones for the same seed.
func spread(seed, many int) []byte {
	d := dice(seed)
	b := make([]byte, many)
	for i := range b {
		b[i] = byte(d.next())
	}
	return b
}

// bodies are bytes to be summed and sealed: none, all alike, and any, of many lengths.
func bodies() [][]byte {
	l := [][]byte{nil, {}, []byte("123456789"), make([]byte, 300), bytes.Repeat([]byte{255}, 300)}
	for many := range 70 {
		l = append(l, spread(many, many))
	}
	for i, many := range []int{127, 128, 255, 256, 257, 1000, 4099} {
		l = append(l, spread(100+i, many))
	}
	return l
}

// slow is a sum worked out another way, one bit after the other: what is left when all bits, the first 32 turned, and 32 noughts behind them, are divided by the pattern from the highest bit down.
func slow(b []byte) uint32 {
	var line []bool
	for _, c := range append(slices.Clone(b), 0, 0, 0, 0) {
		for i := range 8 {
			line = append(line, c>>i&1 == 1)
		}
	}
	for i := range 32 {
		line[i] = !line[i]
	}
	divisor := bits.Reverse32(0xEDB88320)
	for i := range len(line) - 32 {
		if !line[i] {
			continue
		}
		for k := range 32 {
			line[i+1+k] = line[i+1+k] != (divisor<<k>>31 == 1)
		}
	}
	var r uint32
	for i, set := range line[len(line)-32:] {
		if set {
			r |= 1 << i
		}
	}
	return ^r
}

// opens asks that b is opened as want.
func opens(t *testing.T, what string, b, want []byte) {
	t.Helper()
	if got, e := Open(b); !bytes.Equal(got, want) || e != api.OK {
		t.Fatalf("%s: Open of %s: %s, %d, not %s", what, short(b), short(got), e, short(want))
	}
}

// refused asks that b is of nothing: beside the error nothing is told.
func refused(t *testing.T, what string, b []byte) {
	t.Helper()
	if got, e := Open(b); len(got) != 0 || e != api.ErrCorrupt {
		t.Fatalf("%s: Open of %s: %s, %d", what, short(b), short(got), e)
	}
}

// short is a text of bytes that a failed test tells, cut where it would be too long.
func short(b []byte) string {
	const digits = "0123456789abcdef"
	s := ""
	for i, c := range b {
		if i == 40 {
			return s + ".."
		}
		s += digits[c>>4:c>>4+1] + digits[c&15:c&15+1]
	}
	return "[" + s + "]"
}
