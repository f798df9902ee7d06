package isa

import "quilt/api"

// How many bytes stand for how many commands there are, and for a kind.
const (
	wideCount = 2
	wideKind  = 1
)

// lay lays a number of wide bytes behind b, the highest first.
func lay(b []byte, wide, x int) []byte {
	for i := wide - 1; i >= 0; i-- {
		b = append(b, byte(x>>(8*i)))
	}
	return b
}

// layCmd is of a command that may be: each of its numbers has room in its bytes.
func layCmd(b []byte, c api.Cmd) []byte {
	b = lay(b, wideKind, c.Kind)
	l, _ := fields(&c)
	for _, f := range l {
		b = lay(b, f.wide, *f.at)
	}
	return b
}

// A reader takes numbers off the front of what is left. Once it is short, what it takes is of no use.
type reader struct {
	left  []byte
	short bool
}

func (r *reader) number(wide int) int {
	if wide > len(r.left) {
		r.short = true
		return 0
	}
	x := 0
	for _, c := range r.left[:wide] {
		x = x<<8 | int(c)
	}
	r.left = r.left[wide:]
	return x
}

// cmd takes what stands there: whether it may be, others ask. Of a kind that is none it takes no fields.
func (r *reader) cmd() api.Cmd {
	c := api.Cmd{Kind: r.number(wideKind)}
	l, _ := fields(&c)
	for _, f := range l {
		*f.at = r.number(f.wide)
	}
	return c
}
