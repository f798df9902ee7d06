package image

import (
	"bytes"
	"slices"
	"testing"

	"quilt/api"
)

// refused asks that bytes are of no image, and that beside the error nothing is told.
func refused(t *testing.T, what string, b []byte) {
	t.Helper()
	if im, e := Take(b); e != api.ErrCorrupt || text(im) != text(api.Image{}) {
		t.Fatalf("%s: Take of %s: %s, %d", what, cut(b), cut(im), e)
	}
}

// taken asks what holds of Take of any bytes, and tells whether there was an image.
func taken(t *testing.T, what string, b []byte) bool {
	t.Helper()
	if !holds(b) {
		refused(t, what, b)
		return false
	}
	im, e := Take(b)
	if e != api.OK || May(im) != api.OK {
		t.Fatalf("%s: Take of %s: %s, %d", what, cut(b), cut(im), e)
	}
	if again := put(t, im); !bytes.Equal(again, b) {
		t.Fatalf("%s: %s taken, %s put", what, cut(b), cut(again))
	}
	return true
}

// P9.2: Take

func TestNoBytes(t *testing.T) {
	refused(t, "nil", nil)
	refused(t, "empty", []byte{})
	refused(t, "nothing, sealed", sealed(nil))
	for c := range 256 {
		for many := range 12 {
			refused(t, "one byte again and again", bytes.Repeat([]byte{byte(c)}, many))
			refused(t, "one byte again and again, sealed", sealed(bytes.Repeat([]byte{byte(c)}, many)))
		}
	}
}

// What is cut off stands in the room behind: it is not looked at.
func TestBytesCutAnywhere(t *testing.T) {
	for _, im := range []api.Image{woven(), alone(value(1, 1, 1, 0), 5)} {
		b := put(t, im)
		body := b[:len(b)-4]
		for i := range b {
			refused(t, "cut at the end", b[:i])
			refused(t, "cut at the end, without room", bytes.Clone(b[:i]))
			refused(t, "left out", slices.Delete(bytes.Clone(b), i, i+1))
			if i > 0 {
				refused(t, "cut at the front", b[i:])
			}
		}
		for i := range body {
			refused(t, "the body cut at the end, sealed", sealed(body[:i]))
			taken(t, "the body cut at the front, sealed", sealed(body[i+1:]))
			taken(t, "left out of the body, sealed", sealed(slices.Delete(bytes.Clone(body), i, i+1)))
		}
	}
}

func TestBytesWithMoreBehind(t *testing.T) {
	for _, im := range []api.Image{woven(), alone(value(1, 1, 1, 0), 5)} {
		b := put(t, im)
		body := b[:len(b)-4]
		for _, more := range [][]byte{{0}, {1}, {7}, {255}, {0, 0}, {0, 1, 7}, {0, 0, 0, 0}, b, body, make([]byte, 70000)} {
			refused(t, "more behind", slices.Concat(b, more))
			refused(t, "more ahead", slices.Concat(more, b))
			refused(t, "more behind the last stream, sealed", sealed(slices.Concat(body, more)))
			refused(t, "more behind the sum, sealed again", sealed(slices.Concat(b, more)))
		}
		refused(t, "sealed two times", sealed(b))
		refused(t, "without the sum", body)
	}
}

func TestASumThatIsNotTheBodys(t *testing.T) {
	body := wovenBytes()
	whole := put(t, woven())
	sum := whole[len(body):]
	turned := slices.Clone(sum)
	slices.Reverse(turned)
	for _, other := range [][]byte{turned, {0, 0, 0, 0}, {255, 255, 255, 255}, {^sum[0], ^sum[1], ^sum[2], ^sum[3]}, sealed(nil), sealed(whole)[len(whole):]} {
		refused(t, "another sum", slices.Concat(body, other))
	}
}

func TestGraphsThatMayNotBeSealed(t *testing.T) {
	s := wovenStreams()
	behind := slices.Concat(wovenPlaces(), s[0], s[1], s[2])
	for _, x := range []struct {
		what     string
		at, from byte
		to       byte
	}{
		{"no Ins", 0, 2, 0}, {"five Ins", 0, 2, 5}, {"H 0", 1, 2, 0}, {"H 17", 1, 2, 17}, {"C 9", 3, 2, 9}, {"13 nodes", 9, 3, 13}, {"Op 0", 10, 4, 0}, {"Op 13", 10, 4, 13},
		{"an In that is none", 12, 0, 2}, {"K 3", 13, 2, 3}, {"Mul 0", 18, 1, 0}, {"Zero", 20, 1, 2}, {"a weight less", 42, 12, 11}, {"a weight more", 42, 12, 13},
		{"a B less", 55, 3, 2}, {"a B too far", 67, 0, 1}, {"no Outs", 85, 3, 0}, {"an Out that is none", 88, 4, 5}, {"an Out far out", 88, 4, 255},
	} {
		g := wovenGraph()
		if g[x.at] != x.from {
			t.Fatalf("%s: %d stands there", x.what, g[x.at])
		}
		g[x.at] = x.to
		refused(t, x.what, sealed(slices.Concat(g, behind)))
	}
	refused(t, "no graph", sealed(behind))
	refused(t, "half a graph", sealed(wovenGraph()[:40]))
	refused(t, "two graphs", sealed(slices.Concat(wovenGraph(), wovenGraph(), behind)))
}

// Each place, by its bytes; what is beyond may be put there by nobody.
func TestPlacesThatMayNotBeSealed(t *testing.T) {
	for i, size := range []int{12, 1, 4, 3, 9} {
		for at := 0; at < 1<<24; at++ {
			b := wovenBytes()
			copy(b[len(wovenGraph())+3*i:], []byte{byte(at >> 16), byte(at >> 8), byte(at)})
			b = sealed(b)
			if at > 65536-size {
				refused(t, "a place beyond", b)
			} else if im, e := Take(b); e != api.OK || text(im) != text(with(func(im *api.Image) { im.Places[i] = at })) {
				t.Fatalf("place %d at %d: %s, %d", i, at, cut(im), e)
			}
			// All near the bounds, and some of the others.
			switch {
			case at > 65600 && at < 1<<24-30000:
				at += 19937
			case at < 65500 || at > 65600:
				at += 997
			}
		}
	}
	s := wovenStreams()
	for many := range 8 {
		places := make([]byte, 3*many)
		b := sealed(slices.Concat(wovenGraph(), places, []byte{0, 1, 7}, s[1], s[2]))
		if taken(t, "so many places", b) != (many == 5) {
			t.Errorf("%d places", many)
		}
	}
	for _, cut := range []int{1, 2, 14} {
		refused(t, "a place begun", sealed(slices.Concat(wovenGraph(), wovenPlaces()[:cut])))
		refused(t, "a place begun", sealed(slices.Concat(wovenGraph(), wovenPlaces()[:cut], s[0], s[1], s[2])))
	}
}

func TestStreamsThatMayNotBeSealed(t *testing.T) {
	ahead := slices.Concat(wovenGraph(), wovenPlaces())
	for i := range api.Engines {
		for _, stream := range [][]byte{
			nil, {0}, {0, 1}, {0, 1, 0}, {0, 1, 8}, {0, 1, 5}, {0, 1, 5, 8}, {0, 1, 6, 255}, {0, 2, 7}, {0, 1, 4, 12, 1}, {0, 1, 4, 0, 0}, {0, 1, 4, 0, 17},
			{0, 1, 1, 1, 0, 129, 0, 0, 0, 0, 0}, {0, 1, 2, 1, 0, 1, 1, 0, 0, 0, 0}, {0, 1, 3, 0, 0, 1, 4, 0, 0, 0, 0, 0, 0, 0, 0, 0}, {0, 3, 7, 7, 0},
			slices.Concat([]byte{16, 1}, bytes.Repeat([]byte{7}, 4097)), {255, 255},
		} {
			s := wovenStreams()
			s[i] = stream
			refused(t, "a stream", sealed(slices.Concat(ahead, s[0], s[1], s[2])))
		}
		s := wovenStreams()
		s[i] = slices.Concat([]byte{16, 0}, bytes.Repeat([]byte{7}, 4096))
		if im, e := Take(sealed(slices.Concat(ahead, s[0], s[1], s[2]))); e != api.OK || text(im) != text(withStream(i, halts(4096))) {
			t.Errorf("as many as may be: %s, %d", cut(im), e)
		}
	}
	s := wovenStreams()
	refused(t, "no streams", sealed(ahead))
	refused(t, "one stream", sealed(slices.Concat(ahead, s[0])))
	refused(t, "two streams", sealed(slices.Concat(ahead, s[0], s[1])))
	refused(t, "four streams", sealed(slices.Concat(ahead, s[0], s[1], s[2], []byte{0, 0})))
}

func TestOneByteOfTheBodyTurnedAndSealed(t *testing.T) {
	body, there := wovenBytes(), 0
	for i, was := range body {
		for c := range 256 {
			body[i] = byte(c)
			b := sealed(body)
			if !taken(t, "one turned", b) {
				continue
			}
			there++
			if im, _ := Take(b); Same(im, woven()) != (byte(c) == was) {
				t.Fatalf("byte %d, %d to %d: the same image: %v", i, was, c, byte(c) != was)
			}
		}
		body[i] = was
	}
	if there < 3000 {
		t.Errorf("%d images alone", there)
	}
}

func TestBytesByDice(t *testing.T) {
	d, there := dice(3), 0
	short := family()[:64]
	for range 20000 {
		var b []byte
		for range d.below(60) {
			b = append(b, byte(d.below(1+d.below(6))))
		}
		taken(t, "by dice", b)
		taken(t, "by dice, sealed", sealed(b))
		b = put(t, short[d.below(len(short))])
		b = b[:len(b)-4]
		for range 1 + d.below(3) {
			switch i := d.below(len(b)); d.below(4) {
			case 0:
				b = slices.Delete(b, i, i+1)
			case 1:
				b = slices.Insert(b, i, byte(d.below(20)))
			default:
				b[i] = byte(d.below(20))
			}
		}
		if taken(t, "turned by dice, sealed", sealed(b)) {
			there++
		}
	}
	if there < 1000 {
		t.Errorf("%d images alone", there)
	}
}

// P9.3

func TestEachBitTurned(t *testing.T) {
	l := family()
	for _, im := range []api.Image{woven(), l[1], l[2], l[10], l[70]} {
		b := put(t, im)
		for i := range b {
			for k := range 8 {
				b[i] ^= 1 << k
				refused(t, "a bit turned", b)
				b[i] ^= 1 << k
			}
		}
		if again, e := Take(b); e != api.OK || !Same(again, im) {
			t.Errorf("turned back: %s, %d", cut(again), e)
		}
	}
}

func TestOneByteTurned(t *testing.T) {
	b := put(t, woven())
	for i, was := range b {
		for c := range 256 {
			b[i] = byte(c)
			if taken(t, "a byte turned", b) != (byte(c) == was) {
				t.Fatalf("byte %d, %d to %d", i, was, c)
			}
		}
		b[i] = was
	}
}

// The longest image there can be: its sum is of all of it.
func TestTheLongestImage(t *testing.T) {
	im := api.Image{Graph: graphs()[3]}
	values := len(im.Graph.Ins) + len(im.Graph.Nodes)
	im.Places = make([]int, values)
	tile := api.Cmd{Kind: api.CmTile, Node: 11, First: 15, Rows: 16, Pad: 1023, In: [2]int{1023, 1022}, Base: [2]int{15, 14}, Have: [2]int{16, 15}}
	for i := range im.Streams {
		im.Streams[i] = slices.Repeat([]api.Cmd{tile}, api.MaxCmds)
	}
	mayBe(t, "the longest", im)
	b := put(t, im)
	for i := 0; i < len(b); i += 7919 {
		b[i] ^= 16
		refused(t, "a bit turned", b)
		b[i] ^= 16
	}
}
