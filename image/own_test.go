package image

import (
	"bytes"
	"math"
	"reflect"
	"slices"
	"testing"

	"quilt/api"
)

// R1, R6, R7

// fill sets each number that v is made of.
func fill(v reflect.Value, x int64) {
	walk(v, func(v reflect.Value) {
		if v.CanInt() {
			v.SetInt(x)
		}
	})
}

// room is what stands behind the end of a list.
func room(l reflect.Value) reflect.Value { return l.Slice(l.Len(), l.Cap()) }

// roomy gives each list of an image room behind its end, with numbers in that room.
func roomy(im api.Image) api.Image {
	walk(reflect.ValueOf(&im).Elem(), func(v reflect.Value) {
		if v.Kind() == reflect.Slice {
			more := reflect.MakeSlice(v.Type(), v.Len()+5, v.Len()+5)
			reflect.Copy(more, v)
			v.Set(more.Slice(0, v.Len()))
			fill(room(v), 77)
		}
	})
	return im
}

// whole is a text of an image, and of what stands in the room behind each of its lists.
func whole(im api.Image) string {
	s := text(im)
	for _, l := range lists(&im) {
		s += "\n" + cut(room(l))
	}
	return s
}

// others are images of all kinds: such as may be, and such as may not.
func others() []api.Image {
	l := []api.Image{{}, woven(), alone(value(1, 1, 1, 0), 5), with(func(im *api.Image) { im.Places[4]++ }), withStream(1, []api.Cmd{{}}), withStream(2, halts(4097))}
	for _, w := range wrongGraphs() {
		l = append(l, w.im)
	}
	return l
}

func TestTheImageIsLeft(t *testing.T) {
	for _, im := range others() {
		given, want := roomy(im), whole(roomy(im))
		b, e := Put(im)
		if got, err := Put(given); !bytes.Equal(got, b) || err != e || May(given) != e {
			t.Errorf("with room: %s, %d, %d, not %s, %d", cut(got), err, May(given), cut(b), e)
		}
		if !Same(given, im) || !Same(im, given) {
			t.Errorf("with room not the same: %s", cut(im))
		}
		if whole(given) != want {
			t.Errorf("changed: %s", cut(im))
		}
	}
}

func TestTheBytesAreLeft(t *testing.T) {
	b := put(t, woven())
	for _, was := range [][]byte{{}, {0}, b, b[:20], b[1:], wovenBytes(), sealed(b), sealed(wovenBytes()[:90])} {
		im, e := Take(was)
		for _, more := range [][]byte{{0}, {7, 7}, b, make([]byte, 100)} {
			given := slices.Concat(was, more)
			again, err := Take(given[:len(was)])
			if text(again) != text(im) || err != e {
				t.Errorf("with room: %s, %d, not %s, %d", cut(again), err, cut(im), e)
			}
			if !bytes.Equal(given, slices.Concat(was, more)) {
				t.Errorf("changed: %s", cut(was))
			}
		}
	}
}

func TestWhatPutTellsIsOnesOwn(t *testing.T) {
	im := woven()
	b, other, want := put(t, im), put(t, im), sealed(wovenBytes())
	fill(reflect.ValueOf(&im).Elem(), 1)
	if !bytes.Equal(b, want) {
		t.Errorf("what was handed in is kept")
	}
	clear(b[:cap(b)])
	if !bytes.Equal(other, want) || !bytes.Equal(put(t, woven()), want) {
		t.Errorf("what was told is shared")
	}
}

func TestWhatTakeTellsIsOnesOwn(t *testing.T) {
	for _, was := range family() {
		b, want := put(t, was), text(was)
		im, _ := Take(b)
		again, _ := Take(b)
		clear(b[:cap(b)])
		if text(im) != want || text(again) != want {
			t.Fatalf("what was handed in is kept: %s", cut(was))
		}
		// What is laid behind one list of an answer is in no other.
		for _, l := range lists(&im) {
			fill(room(l), 99)
		}
		if text(im) != want {
			t.Fatalf("lists of an answer share room: %s", cut(was))
		}
		fill(reflect.ValueOf(&im).Elem(), 99)
		if text(again) != want {
			t.Fatalf("answers share lists: %s", cut(was))
		}
	}
}

func TestAskedAgain(t *testing.T) {
	for _, im := range others() {
		May(im)
		Put(im)
		Same(im, woven())
		Take(wanted(im))
		Take(sealed(wovenBytes()[:50]))
		mayBe(t, "again", woven())
		mayNotBe(t, "again", with(func(im *api.Image) { im.Places = nil }), api.ErrArg)
		refused(t, "again", wovenBytes())
		if b := put(t, woven()); !bytes.Equal(b, sealed(wovenBytes())) {
			t.Fatalf("Put: %v", b)
		}
	}
}

// Images with a number or two anywhere in them that is far out: each call ends, and what may be comes back.
func TestNumbersFarOut(t *testing.T) {
	d := dice(8)
	wild := append(far(), 0, 1, 2, 127, 255, 4096, math.MaxInt8, math.MaxInt16)
	there := 0
	for range 20000 {
		im := woven()
		l := numbers(&im)
		for range 1 + d.below(2) {
			if x, v := int64(wild[d.below(len(wild))]), l[d.below(len(l))]; !v.OverflowInt(x) {
				v.SetInt(x)
			}
		}
		same(t, "itself", im, im, true)
		if e := May(im); e == api.OK {
			there++
			mayBe(t, "far out", im)
		} else {
			mayNotBe(t, "far out", im, e)
		}
	}
	if there < 1000 || there > 15000 {
		t.Errorf("%d may be", there)
	}
}
