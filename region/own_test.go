package region

import (
	"math"
	"reflect"
	"slices"
	"testing"

	"quilt/api"
	"quilt/graph"
)

// R1, R6, R7

// walk visits v, and then what v is made of.
func walk(v reflect.Value, visit func(v reflect.Value)) {
	visit(v)
	switch v.Kind() {
	case reflect.Struct:
		for i := range v.NumField() {
			walk(v.Field(i), visit)
		}
	case reflect.Array, reflect.Slice:
		for i := range v.Len() {
			walk(v.Index(i), visit)
		}
	}
}

// fill sets each number that v is made of.
func fill(v reflect.Value, x int64) {
	walk(v, func(v reflect.Value) {
		if v.CanInt() {
			v.SetInt(x)
		}
	})
}

// room is what stands behind the end of a list.
func room(l reflect.Value) reflect.Value { return l.Slice(l.Len(), l.Cap()) }

// roomy gives each list of an image room behind its end, with numbers in that room.
func roomy(im api.Image) api.Image {
	walk(reflect.ValueOf(&im).Elem(), func(v reflect.Value) {
		if v.Kind() == reflect.Slice {
			more := reflect.MakeSlice(v.Type(), v.Len()+5, v.Len()+5)
			reflect.Copy(more, v)
			v.Set(more.Slice(0, v.Len()))
			fill(room(v), 77)
		}
	})
	return im
}

// whole is a text of an image, and of what stands in the room behind each of its lists.
func whole(im api.Image) string {
	s := text(im)
	walk(reflect.ValueOf(&im).Elem(), func(v reflect.Value) {
		if v.Kind() == reflect.Slice {
			s += "\n" + text(room(v))
		}
	})
	return s
}

// others are images of all kinds: such as may be, and such as may not.
func others() []api.Image {
	l := []api.Image{woven(), bare(), single(16, 16, 8), double(1, 2, 3), at(9, 65536), with(func(im *api.Image) { im.Places = nil })}
	for _, w := range wrongGraphs() {
		l = append(l, w.im)
	}
	return l
}

func TestWhatIsHandedInIsLeft(t *testing.T) {
	d := dice(7)
	for _, im := range others() {
		given, want := roomy(im), whole(roomy(im))
		for _, c := range append(commands(), d.cmd(), d.cmd(), d.cmd(), api.Cmd{}) {
			holds(t, "with room", given, c)
		}
		if whole(given) != want {
			t.Errorf("changed: %s", text(im))
		}
	}
}

func TestSpansAreLeft(t *testing.T) {
	row := func() []api.Span {
		return []api.Span{w0(9, 3), r0(5, 8), w1(2, 4), r0(5, 5), w0(1, 2), w0(0, 65536), w1(0, 1024)}
	}
	// What stands in the room behind an end is in neither row: there it would meet.
	for n := range 8 {
		for m := range 8 {
			a, b := row(), row()
			meets(t, a[:n], b[:m], clashes(row()[:n], row()[:m]))
			if !slices.Equal(a, row()) || !slices.Equal(b, row()) {
				t.Errorf("Clash of %d and %d changes %+v, %+v", n, m, a, b)
			}
			meets(t, a[:n], a[m:], clashes(row()[:n], row()[m:]))
		}
	}
	a := row()
	meets(t, a[:0], a, false)
	meets(t, a[3:4], a[5:6], false)
}

func TestWhatIsToldIsOnesOwn(t *testing.T) {
	im := woven()
	im.Streams[0] = commands()
	want := whole(im)
	for _, c := range commands() {
		l, _ := Of(im, c)
		other, _ := Of(im, c)
		right, _ := wanted(woven(), c)
		clear(l[:cap(l)])
		if !slices.Equal(other, right) {
			t.Errorf("answers of %+v share a list", c)
		}
		holds(t, "behind a change of what was told", im, c)
	}
	if whole(im) != want {
		t.Errorf("an answer is a part of the image")
	}
}

func TestWhatIsHandedInIsNotKept(t *testing.T) {
	for _, c := range commands() {
		im := roomy(woven())
		l, e := Of(im, c)
		fill(reflect.ValueOf(&im).Elem(), 1)
		right, _ := wanted(woven(), c)
		if e != api.OK || !slices.Equal(l, right) {
			t.Errorf("what was told of %+v changes: %+v", c, l)
		}
		holds(t, "another image", woven(), c)
	}
}

// An image's own streams are nothing to what one command does, whether they have it or not.
func TestStreamsAreNotLookedAt(t *testing.T) {
	im := woven()
	im.Streams = [api.Engines][]api.Cmd{commands(), {{Kind: 9}}, make([]api.Cmd, 5000)}
	for _, c := range commands() {
		l, _ := wanted(woven(), c)
		tells(t, "with streams", im, c, l...)
	}
}

func TestAskedAgain(t *testing.T) {
	d := dice(1)
	for _, im := range others() {
		Of(im, d.cmd())
		May(w1(9, 2000))
		Clash([]api.Span{w0(0, 9)}, []api.Span{w0(0, 9)})
		for _, c := range commands() {
			Of(im, c)
			holds(t, "again", woven(), c)
		}
		asks(t, w1(0, 1024), api.OK)
		meets(t, []api.Span{r0(0, 4)}, []api.Span{w0(3, 5)}, true)
	}
}

// Images and commands with a number or two anywhere in them that is far out: each call ends, and tells what the chapter says.
func TestNumbersFarOut(t *testing.T) {
	type call struct {
		Im api.Image
		C  api.Cmd
	}
	d := dice(4)
	wild := append(far(), 0, 1, 2, 3, 16, 127, 1023, 1024, 65535, math.MaxInt8)
	there, refused := 0, map[api.Errno]int{}
	for range 12000 {
		x := call{woven(), commands()[d.below(7)]}
		var numbers []reflect.Value
		of := reflect.ValueOf(&x).Elem()
		// One number of an image is seldom one of its places, or of the command: half of the time it is.
		if d.below(2) == 0 {
			walk(of.Field(1), func(v reflect.Value) { numbers = append(numbers, v) })
			walk(of.Field(0).FieldByName("Places"), func(v reflect.Value) { numbers = append(numbers, v) })
		} else {
			walk(of, func(v reflect.Value) { numbers = append(numbers, v) })
		}
		numbers = slices.DeleteFunc(numbers, func(v reflect.Value) bool { return !v.CanInt() })
		for range 1 + d.below(2) {
			if v, n := numbers[d.below(len(numbers))], int64(d.one(wild...)); !v.OverflowInt(n) {
				v.SetInt(n)
			}
		}
		if holds(t, "far out", x.Im, x.C) {
			there++
		} else {
			_, e := Of(x.Im, x.C)
			refused[e]++
		}
		if e := graph.Check(x.Im.Graph); e != api.OK {
			refuses(t, "the graph first", x.Im, x.C, e)
		}
	}
	if there < 1000 || refused[api.ErrArg] < 500 || refused[api.ErrAddress] == 0 || refused[api.ErrStream] == 0 {
		t.Errorf("%d may be, refused: %v", there, refused)
	}
}
