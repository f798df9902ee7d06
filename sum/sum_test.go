package sum

import (
	"bytes"
	"hash/crc32"
	"math/bits"
	"slices"
	"testing"
)

// P7.1: Sum

func TestTheChaptersExample(t *testing.T) {
	if r := Sum([]byte("123456789")); r != 0xCBF43926 {
		t.Errorf("Sum: %08X", r)
	}
}

func TestSums(t *testing.T) {
	for _, x := range []struct {
		b    []byte
		want uint32
	}{
		{nil, 0}, {[]byte{}, 0}, {[]byte{0}, 0xD202EF8D}, {[]byte{255}, 0xFF000000}, {[]byte{1}, 0xA505DF1B}, {[]byte{128}, 0x3FBA6CAD}, {[]byte("a"), 0xE8B7BE43},
		{[]byte{0, 0}, 0x41D912FF}, {[]byte{0, 0, 0, 0}, 0x2144DF1C}, {[]byte{255, 255}, 0xFFFF0000}, {[]byte{255, 255, 255, 255}, 0xFFFFFFFF},
		{make([]byte, 32), 0x190A55AD}, {bytes.Repeat([]byte{255}, 32), 0xFF6CAB0B}, {[]byte("abc"), 0x352441C2},
	} {
		if r := Sum(x.b); r != x.want {
			t.Errorf("Sum of %s: %08X, not %08X", short(x.b), r, x.want)
		}
	}
}

// Each sum is held against one that is worked out another way, and against the library's.
func TestManySums(t *testing.T) {
	l := bodies()
	for c := range 256 {
		l = append(l, []byte{byte(c)}, []byte{0, byte(c)}, []byte{byte(c), 0, 255}, bytes.Repeat([]byte{byte(c)}, 9))
	}
	for _, b := range l {
		r := Sum(b)
		if want := slow(b); r != want {
			t.Errorf("Sum of %s: %08X, not %08X", short(b), r, want)
		}
		if want := crc32.ChecksumIEEE(b); r != want {
			t.Errorf("Sum of %s: %08X, by the library %08X", short(b), r, want)
		}
	}
}

func TestSumOfMuch(t *testing.T) {
	b := spread(5, 1<<23+3)
	if r, want := Sum(b), crc32.ChecksumIEEE(b); r != want {
		t.Errorf("Sum: %08X, not %08X", r, want)
	}
	opens(t, "much", Seal(b), b)
}

// P7.1: Seal

func TestSeals(t *testing.T) {
	for _, x := range []struct{ b, want []byte }{
		{nil, []byte{0, 0, 0, 0}}, {[]byte{}, []byte{0, 0, 0, 0}},
		{[]byte{0}, []byte{0, 0x8D, 0xEF, 0x02, 0xD2}}, {[]byte{255}, []byte{255, 0, 0, 0, 255}},
		{[]byte("123456789"), []byte("123456789\x26\x39\xF4\xCB")},
		// What was sealed may be sealed again: with its own sum behind it bytes are summed to the same, whatever they are.
		{[]byte{0, 0, 0, 0}, []byte{0, 0, 0, 0, 0x1C, 0xDF, 0x44, 0x21}}, {[]byte("a\x43\xBE\xB7\xE8"), []byte("a\x43\xBE\xB7\xE8\x1C\xDF\x44\x21")},
	} {
		if s := Seal(x.b); !bytes.Equal(s, x.want) {
			t.Errorf("Seal of %s: %s, not %s", short(x.b), short(s), short(x.want))
		}
	}
}

func TestManySeals(t *testing.T) {
	for _, b := range bodies() {
		r := Sum(b)
		want := append(slices.Clone(b), byte(r), byte(r>>8), byte(r>>16), byte(r>>24))
		if s := Seal(b); !bytes.Equal(s, want) {
			t.Errorf("Seal of %s: %s, not %s", short(b), short(s), short(want))
		}
	}
}

// P7.1: Open

func TestOpens(t *testing.T) {
	for _, x := range []struct{ b, want []byte }{
		{[]byte{0, 0, 0, 0}, nil}, {[]byte{0, 0x8D, 0xEF, 0x02, 0xD2}, []byte{0}}, {[]byte{255, 0, 0, 0, 255}, []byte{255}}, {[]byte{255, 255, 255, 255, 255, 255, 255, 255}, []byte{255, 255, 255, 255}},
		{[]byte("123456789\x26\x39\xF4\xCB"), []byte("123456789")}, {[]byte{0, 0, 0, 0, 0x1C, 0xDF, 0x44, 0x21}, []byte{0, 0, 0, 0}},
	} {
		opens(t, "sealed", x.b, x.want)
	}
}

func TestFewerThanFourBytes(t *testing.T) {
	refused(t, "nil", nil)
	refused(t, "no bytes", []byte{})
	for a := range 256 {
		refused(t, "one byte", []byte{byte(a)})
		for b := range 256 {
			refused(t, "two bytes", []byte{byte(a), byte(b)})
		}
	}
	d := dice(9)
	for range 20000 {
		x := d.next()
		refused(t, "three bytes", []byte{byte(x), byte(x >> 8), byte(x >> 16)})
	}
	refused(t, "three noughts", []byte{0, 0, 0})
	// What would make four stands in the room behind: it is not looked at.
	for n := range 4 {
		refused(t, "cut off", Seal(nil)[:n])
		refused(t, "cut off", Seal([]byte("123456789"))[:n])
	}
}

// Of four bytes just one row is of something: of nothing at all.
func TestFourBytes(t *testing.T) {
	opens(t, "noughts", make([]byte, 4), nil)
	for i := range 4 {
		for c := 1; c < 256; c++ {
			b := make([]byte, 4)
			b[i] = byte(c)
			refused(t, "one byte more than 0", b)
		}
	}
	d := dice(4)
	for range 20000 {
		x := d.next() | 1<<(d.next()%32)
		refused(t, "four bytes", []byte{byte(x), byte(x >> 8), byte(x >> 16), byte(x >> 24)})
	}
}

// Each number of four bytes behind the same ones: the right sum alone is opened. All are asked that are near it in some way.
func TestWrongSums(t *testing.T) {
	for _, body := range bodies() {
		r := Sum(body)
		near := []uint32{^r, bits.Reverse32(r), bits.ReverseBytes32(r), bits.RotateLeft32(r, 8), bits.RotateLeft32(r, 16), r >> 1, r << 1, r + 1, r - 1, -r, r ^ 0xEDB88320, 0, 1<<32 - 1, crc32.Checksum(body, crc32.MakeTable(crc32.Castagnoli)), Sum(append(slices.Clone(body), 0))}
		for i := range 40 {
			near = append(near, uint32(i)*0x01010101, uint32(i)*0x9E3779B9)
		}
		for _, x := range near {
			b := append(slices.Clone(body), byte(x), byte(x>>8), byte(x>>16), byte(x>>24))
			if x == r {
				opens(t, "the sum", b, body)
				continue
			}
			refused(t, "not the sum", b)
		}
	}
}

func TestSumsInAnotherPlace(t *testing.T) {
	for _, body := range bodies()[2:] {
		if len(body) == 0 {
			continue
		}
		s := Seal(body)
		sum := s[len(body):]
		refused(t, "the sum ahead", slices.Concat(sum, body))
		refused(t, "the sum two times", slices.Concat(body, sum, sum))
		refused(t, "no sum", append(slices.Clone(body), 0, 0, 0, 0))
		refused(t, "the sum with one behind", append(slices.Clone(s), 0))
		refused(t, "the sum with one ahead", slices.Concat([]byte{0}, s))
	}
}

// What is opened is just what is sealed to the same bytes: of all those of which the sum is one, and of no others.
func TestOpenIsOfWhatIsSealed(t *testing.T) {
	d := dice(3)
	for i := range 100000 {
		b := spread(i, int(d.next()%12))
		if d.next()%2 == 0 {
			b = Seal(b)
			b[d.next()%uint32(len(b))] ^= byte(d.next() % 2)
		}
		if len(b) >= 4 && bytes.Equal(Seal(b[:len(b)-4]), b) {
			opens(t, "sealed", b, b[:len(b)-4])
			continue
		}
		refused(t, "not sealed", b)
	}
}

// The least turning of bits that no sum can tell goes over 33 bits: what comes of it is sealed too, and is opened as what it then is of.
func TestBitsTurnedFartherApart(t *testing.T) {
	for _, body := range bodies() {
		s := Seal(body)
		for at := range len(s) - 4 {
			for by := range 8 {
				b := slices.Clone(s)
				turn := (1 | uint64(0xEDB88320)<<1) << by
				for i := range 5 {
					b[at+i] ^= byte(turn >> (8 * i))
				}
				opens(t, "33 bits", b, b[:len(body)])
				b[at] ^= 1 << by
				refused(t, "32 bits", b)
			}
			if at > 80 {
				break
			}
		}
	}
}
