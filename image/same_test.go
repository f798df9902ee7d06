package image

import (
	"bytes"
	"reflect"
	"testing"

	"quilt/api"
)

// same asks it both ways round.
func same(t *testing.T, what string, a, b api.Image, want bool) {
	t.Helper()
	if Same(a, b) != want || Same(b, a) != want {
		t.Errorf("%s: Same: %v, %v, not %v: %s and %s", what, Same(a, b), Same(b, a), want, cut(a), cut(b))
	}
}

// P9.2: Same

func TestSameAsItself(t *testing.T) {
	for _, im := range family() {
		same(t, "itself", im, im, true)
	}
	same(t, "two of woven", woven(), woven(), true)
	same(t, "nothing", api.Image{}, api.Image{}, true)
}

// Of images that may not be the parts are held against each other too.
func TestEachNumberIsAPart(t *testing.T) {
	im := woven()
	many := len(numbers(&im))
	// 8 of its Ins, 51 of its nodes, 3 Outs, 5 Places, 14 of each of 6 commands.
	if many != 151 {
		t.Fatalf("%d numbers", many)
	}
	for i := range many {
		for _, by := range []int64{1, -1, 64} {
			other, again := woven(), woven()
			for _, l := range [][]reflect.Value{numbers(&other), numbers(&again)} {
				l[i].SetInt(l[i].Int() + by)
			}
			same(t, "one number", woven(), other, false)
			same(t, "one number in both", other, again, true)
		}
	}
}

func TestEachListIsAPart(t *testing.T) {
	im := woven()
	for i := range lists(&im) {
		other := woven()
		l := lists(&other)[i]
		l.Set(reflect.Append(l, reflect.Zero(l.Type().Elem())))
		same(t, "one behind", woven(), other, false)
		other = woven()
		if l = lists(&other)[i]; l.Len() == 0 {
			l.Set(reflect.MakeSlice(l.Type(), 0, 3))
			same(t, "none, and empty", woven(), other, true)
			continue
		}
		l.Set(l.Slice(0, l.Len()-1))
		same(t, "without the last one", woven(), other, false)
		l.SetZero()
		same(t, "without all", woven(), other, false)
	}
}

func TestOneOfTwoIsEmpty(t *testing.T) {
	for i := range api.Engines {
		same(t, "a stream that is none, and an empty one", withStream(i, nil), withStream(i, []api.Cmd{}), true)
	}
	for _, im := range family() {
		same(t, "nothing", im, api.Image{}, false)
	}
}

func TestPartsInAnotherOrder(t *testing.T) {
	for i := range api.Engines {
		for k := range i {
			same(t, "streams", woven(), with(func(im *api.Image) { im.Streams[i], im.Streams[k] = im.Streams[k], im.Streams[i] }), false)
		}
	}
	same(t, "places", woven(), with(func(im *api.Image) { im.Places[0], im.Places[3] = im.Places[3], im.Places[0] }), false)
	same(t, "commands", woven(), with(func(im *api.Image) { l := im.Streams[0]; l[1], l[2] = l[2], l[1] }), false)
	same(t, "nodes", woven(), with(func(im *api.Image) { l := im.Graph.Nodes; l[1], l[2] = l[2], l[1] }), false)
	// The same commands all together, but on other engines.
	a, b := withStream(0, halts(2)), withStream(0, halts(1))
	a.Streams[1], b.Streams[1] = halts(1), halts(2)
	same(t, "a command on another engine", a, b, false)
}

func TestUnlikeImagesHaveUnlikeBytes(t *testing.T) {
	var puts [][]byte
	l := family()
	for _, im := range l {
		puts = append(puts, put(t, im))
	}
	for i := range l {
		for k := range l {
			same(t, "of the family", l[i], l[k], bytes.Equal(puts[i], puts[k]))
			if bytes.HasPrefix(puts[i], puts[k]) != (i == k) {
				t.Errorf("%d begins as %d", i, k)
			}
		}
	}
}
