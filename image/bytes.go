package image

import (
	"quilt/api"
	"quilt/graph"
	"quilt/isa"
	"quilt/model"
)

// wide is how many bytes stand for a place.
const wide = 3

// A mark is a place as its bytes, the highest first.
type mark [wide]byte

func markOf(place int) mark {
	return mark{byte(place >> 16), byte(place >> 8), byte(place)}
}

func (m mark) place() int {
	return int(m[0])<<16 | int(m[1])<<8 | int(m[2])
}

// lay lays an image down as it is ahead of its seal; the first error that there is.
func lay(im api.Image) ([]byte, api.Errno) {
	b, e := model.Put(im.Graph)
	if e != api.OK {
		return nil, e
	}
	if !placed(im) {
		return nil, api.ErrArg
	}
	for _, at := range im.Places {
		m := markOf(at)
		b = append(b, m[:]...)
	}
	for _, l := range im.Streams {
		stream, e := isa.Put(l)
		if e != api.OK {
			return nil, e
		}
		b = append(b, stream...)
	}
	return b, api.OK
}

// A reader takes parts off the front of what is left. Once one was none it is short, and what it takes is of no use.
type reader struct {
	left  []byte
	short bool
}

// part goes by any layer's Take: what that took, and how many bytes it had.
func part[T any](r *reader, take func(b []byte) (T, int, api.Errno)) T {
	x, n, e := take(r.left)
	r.left = r.left[n:]
	r.short = r.short || e != api.OK
	return x
}

func takeMark(b []byte) (mark, int, api.Errno) {
	if len(b) < wide {
		return mark{}, 0, api.ErrCorrupt
	}
	return mark{b[0], b[1], b[2]}, wide, api.OK
}

// image takes as many places as the graph ahead of them has values.
func (r *reader) image() api.Image {
	im := api.Image{Graph: part(r, model.Take)}
	values, _ := graph.Values(im.Graph)
	for range values {
		im.Places = append(im.Places, part(r, takeMark).place())
	}
	for i := range im.Streams {
		im.Streams[i] = part(r, isa.Take)
	}
	return im
}
