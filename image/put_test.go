package image

import (
	"bytes"
	"slices"
	"testing"

	"quilt/api"
)

// P9.2: Put

func TestTheChaptersExample(t *testing.T) {
	im := alone(value(1, 1, 1, 0), 5)
	b := put(t, im)
	if want := sealed([]byte{1, 1, 1, 1, 0, 0, 1, 0, 0, 0, 5, 0, 0, 0, 0, 0, 0}); len(b) != 8+3+6+4 || !bytes.Equal(b, want) {
		t.Errorf("Put: %v, not %v", b, want)
	}
	mayBe(t, "the chapter's", im)
}

func TestBytesOfAnImage(t *testing.T) {
	if b := put(t, woven()); !bytes.Equal(b, sealed(wovenBytes())) {
		t.Errorf("Put: %v, not %v", b, sealed(wovenBytes()))
	}
	for i := range api.Engines {
		s := wovenStreams()
		s[i] = []byte{0, 0}
		want := sealed(slices.Concat(wovenGraph(), wovenPlaces(), s[0], s[1], s[2]))
		if b := put(t, withStream(i, nil)); !bytes.Equal(b, want) {
			t.Errorf("Put with stream %d empty: %v, not %v", i, b, want)
		}
	}
}

func TestBytesOfPlaces(t *testing.T) {
	for _, x := range []struct {
		at   int
		want []byte
	}{
		{0, []byte{0, 0, 0}}, {1, []byte{0, 0, 1}}, {255, []byte{0, 0, 255}}, {256, []byte{0, 1, 0}}, {258, []byte{0, 1, 2}},
		{0x1234, []byte{0, 0x12, 0x34}}, {32768, []byte{0, 128, 0}}, {65534, []byte{0, 255, 254}}, {65535, []byte{0, 255, 255}},
	} {
		im := alone(value(1, 1, 1, 0), x.at)
		b := put(t, im)
		if !bytes.Equal(b[8:11], x.want) {
			t.Errorf("a place at %d: %v, not %v", x.at, b[8:11], x.want)
		}
		if again, e := Take(b); e != api.OK || len(again.Places) != 1 || again.Places[0] != x.at {
			t.Errorf("a place at %d: %v, %d", x.at, again.Places, e)
		}
	}
}

// The sum is of the image's own bytes: the lowest byte of it comes first.
func TestTheSumOfAnImage(t *testing.T) {
	b := put(t, alone(value(1, 1, 1, 0), 5))
	r := ^uint32(0)
	for _, c := range b[:17] {
		r ^= uint32(c)
		for range 8 {
			r = r>>1 ^ r&1*0xEDB88320
		}
	}
	if r = ^r; !bytes.Equal(b[17:], []byte{byte(r), byte(r >> 8), byte(r >> 16), byte(r >> 24)}) {
		t.Errorf("%v is not the sum %x", b[17:], r)
	}
}
