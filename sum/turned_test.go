package sum

import (
	"bytes"
	"math/bits"
	"slices"
	"testing"
)

// P7.2

func TestWhatWasSealedIsOpened(t *testing.T) {
	for _, body := range bodies() {
		b := body
		for range 4 {
			s := Seal(b)
			opens(t, "sealed", s, b)
			b = s
		}
	}
	for c := range 256 {
		for many := range 20 {
			b := bytes.Repeat([]byte{byte(c)}, many)
			opens(t, "all alike", Seal(b), b)
		}
	}
}

// turnable are bytes that were sealed: short ones, so that each place is asked, and long ones.
func turnable() [][]byte {
	var l [][]byte
	for _, many := range []int{0, 1, 2, 3, 4, 5, 8, 9, 31, 200} {
		l = append(l, Seal(make([]byte, many)), Seal(bytes.Repeat([]byte{255}, many)), Seal(spread(many, many)))
	}
	return append(l, Seal([]byte("123456789")), Seal(Seal([]byte{7})))
}

func TestEachBitTurned(t *testing.T) {
	for _, s := range append(turnable(), Seal(spread(1, 3000))) {
		for i := range 8 * len(s) {
			s[i/8] ^= 1 << (i % 8)
			refused(t, "a bit turned", s)
			s[i/8] ^= 1 << (i % 8)
		}
		opens(t, "turned back", s, s[:len(s)-4])
	}
}

func TestEachByteTurned(t *testing.T) {
	for _, s := range turnable() {
		for i := range s {
			for c := 1; c < 256; c++ {
				s[i] ^= byte(c)
				refused(t, "a byte turned", s)
				s[i] ^= byte(c)
			}
		}
	}
}

// turned is s with bits turned in four bytes from at on, the lowest of them first.
func turned(s []byte, at int, which uint32) []byte {
	b := slices.Clone(s)
	for i := range 4 {
		b[at+i] ^= byte(which >> (8 * i))
	}
	return b
}

func TestBitsTurnedWithinFourBytes(t *testing.T) {
	d := dice(1)
	for _, s := range turnable() {
		for at := range len(s) - 3 {
			which := []uint32{1<<32 - 1, 0xEDB88320, bits.Reverse32(0xEDB88320), 0x00FFFF00, 0xFF0000FF, 0x80000001, 0x01010101, 0x80808080, 0x55555555, 0xAAAAAAAA}
			for i := range 32 {
				for k := range i {
					which = append(which, 1<<i|1<<k, 1<<i-1<<k)
				}
			}
			for range 100 {
				which = append(which, d.next()|1<<(d.next()%32))
			}
			for _, x := range which {
				refused(t, "bits turned", turned(s, at, x))
			}
		}
	}
}

// All turnings within any two bytes side by side, one by one.
func TestBitsTurnedWithinTwoBytes(t *testing.T) {
	for _, s := range [][]byte{Seal(nil), Seal([]byte{7}), Seal([]byte("1234"))} {
		for at := range len(s) - 1 {
			for x := 1; x < 1<<16; x++ {
				s[at] ^= byte(x)
				s[at+1] ^= byte(x >> 8)
				refused(t, "bits turned", s)
				s[at] ^= byte(x)
				s[at+1] ^= byte(x >> 8)
			}
		}
	}
}

// All of the 2^32 - 1 turnings within any four bytes: each changes the sum of all bytes by what its bits change it by, XORed, so none comes to nothing if no change of one bit is made of those of others. A sealed row's sum of all bytes is the same for all: with another sum it is not sealed.
func TestAllBitsTurnedWithinFourBytes(t *testing.T) {
	for _, s := range turnable() {
		whole := Sum(s)
		if whole != 0x2144DF1C {
			t.Fatalf("Sum of what was sealed, %s: %08X", short(s), whole)
		}
		for at := range len(s) - 3 {
			var change [32]uint32
			for i := range change {
				change[i] = Sum(turned(s, at, 1<<i)) ^ whole
			}
			if x, y := uint32(0x12345678), uint32(0x89ABCDEF); Sum(turned(s, at, x^y))^whole != Sum(turned(s, at, x))^Sum(turned(s, at, y)) {
				t.Errorf("at %d of %s: changes are not XORed", at, short(s))
			}
			if n := independent(change[:]); n != 32 {
				t.Errorf("at %d of %s: of 32 changes %d are made of no others", at, short(s), n)
			}
		}
	}
}

// independent tells how many of some numbers are not others XORed.
func independent(l []uint32) int {
	var highest [32]uint32
	many := 0
	for _, x := range l {
		for x != 0 {
			top := bits.Len32(x) - 1
			if highest[top] == 0 {
				highest[top] = x
				many++
				break
			}
			x ^= highest[top]
		}
	}
	return many
}

func TestCutAndLengthened(t *testing.T) {
	for _, s := range [][]byte{Seal([]byte("123456789")), Seal(spread(1, 50)), Seal(spread(2, 5))} {
		for i := range s {
			refused(t, "cut at the end", s[:i])
			refused(t, "one taken out", slices.Delete(slices.Clone(s), i, i+1))
		}
		for i := 1; i < len(s); i++ {
			refused(t, "cut at the front", s[i:])
		}
		for c := range 256 {
			refused(t, "one behind", append(slices.Clone(s), byte(c)))
			refused(t, "one ahead", append([]byte{byte(c)}, s...))
		}
	}
}
