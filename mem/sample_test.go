package mem

import (
	"math"
	"slices"
	"testing"

	"quilt/api"
)

// A sized is a size that is asked for, and the one that it is held to.
type sized struct{ asked, has int }

func sizes() []sized {
	return []sized{
		{math.MinInt, 0}, {math.MinInt + 4, 0}, {math.MinInt32, 0}, {-1<<32 + 4, 0}, {-65537, 0}, {-65536, 0}, {-4, 0}, {-1, 0},
		{0, 0}, {1, 1}, {2, 2}, {3, 3}, {4, 4}, {127, 127}, {128, 128}, {255, 255}, {256, 256}, {257, 257}, {1023, 1023}, {1024, 1024}, {1025, 1025}, {32768, 32768},
		{65534, 65534}, {65535, 65535}, {65536, 65536},
		{65537, 65536}, {65538, 65536}, {1 << 17, 65536}, {math.MaxInt32, 65536}, {1 << 32, 65536}, {1<<32 + 4, 65536}, {1 << 62, 65536}, {math.MaxInt - 1, 65536}, {math.MaxInt, 65536},
	}
}

// few are some sizes to try more of: the bounds, and what lies near them.
func few() []int {
	return []int{0, 1, 2, 5, 64, 1024, 65535, 65536}
}

// far are addresses, and numbers of numbers, that no memory has: some make one that it has with another one, when their sum goes round.
func far() []int {
	return []int{math.MinInt, math.MinInt + 1, math.MinInt + 4, math.MinInt32, -1 << 32, -1<<32 + 1, -1 << 62, -65537, -65536, -257, -256, -255, -128, -2, -1, 65537, 65538, 1 << 17, math.MaxInt32, math.MaxInt32 + 1, 1 << 32, 1<<32 + 1, 1<<32 + 4, 1 << 62, 1<<62 + 1, math.MaxInt - 65536, math.MaxInt - 4, math.MaxInt - 1, math.MaxInt}
}

// pattern are so many numbers, of all kinds, that go another way every 256 of them, and another one for each salt.
func pattern(n, salt int) []int8 {
	l := make([]int8, n)
	for i := range l {
		l[i] = int8(i*77 + i>>8*29 + salt*13 + 5)
	}
	return l
}

// filled is a memory that has pattern's numbers.
func filled(t *testing.T, size, salt int) *Mem {
	t.Helper()
	m := New(size)
	writes(t, m, 0, pattern(size, salt), api.OK)
	return m
}

// holds asks for all numbers, at once, in pieces, and those at both ends one by one.
func holds(t *testing.T, m *Mem, want []int8) {
	t.Helper()
	if n := m.Size(); n != len(want) {
		t.Fatalf("Size: %d, not %d", n, len(want))
	}
	reads(t, m, 0, len(want), want)
	for at := 0; at < len(want); at += 1000 {
		n := min(1000, len(want)-at)
		reads(t, m, at, n, want[at:at+n])
	}
	for i := range min(3, len(want)) {
		last := len(want) - 1 - i
		reads(t, m, i, 1, want[i:i+1])
		reads(t, m, last, 1, want[last:last+1])
	}
}

func reads(t *testing.T, m *Mem, at, n int, want []int8) {
	t.Helper()
	l, e := m.Read(at, n)
	if e != api.OK || len(l) != n {
		t.Fatalf("Read(%d, %d) of %d: %d numbers, %d", at, n, m.Size(), len(l), e)
	}
	if !slices.Equal(l, want) {
		t.Fatalf("Read(%d, %d) of %d: other numbers than those that it has", at, n, m.Size())
	}
}

func readsNot(t *testing.T, m *Mem, at, n int) {
	t.Helper()
	if l, e := m.Read(at, n); e != api.ErrAddress || l != nil {
		t.Fatalf("Read(%d, %d) of %d: %d numbers, nil %v, %d", at, n, m.Size(), len(l), l == nil, e)
	}
}

func writes(t *testing.T, m *Mem, at int, l []int8, want api.Errno) {
	t.Helper()
	if e := m.Write(at, l); e != want {
		t.Fatalf("Write(%d, %d numbers) of %d: %d, not %d", at, len(l), m.Size(), e, want)
	}
}

// but is l with other numbers from at on.
func but(l []int8, at int, other []int8) []int8 {
	r := slices.Clone(l)
	for i, x := range other {
		r[at+i] = x
	}
	return r
}

// within is what the chapter's words say of addresses.
func within(at, n, size int) bool {
	if n < 0 || at < 0 || n > size || at > size {
		return false
	}
	return !(at+n > size)
}

// A ledger is what was written, in order: what stands at an address is looked up there, from the last one back.
type ledger struct {
	size int
	done []note
}

type note struct {
	at int
	l  []int8
}

func (g *ledger) number(at int) int8 {
	for i := len(g.done) - 1; i >= 0; i-- {
		if d := g.done[i]; at >= d.at && at < d.at+len(d.l) {
			return d.l[at-d.at]
		}
	}
	return 0
}

func (g *ledger) numbers(at, n int) []int8 {
	r := make([]int8, n)
	for i := range r {
		r[i] = g.number(at + i)
	}
	return r
}

// write and read do a call of both, and ask whether they tell the same.
func (g *ledger) write(t *testing.T, m *Mem, at int, l []int8) {
	t.Helper()
	if !within(at, len(l), g.size) {
		writes(t, m, at, l, 23)
		return
	}
	writes(t, m, at, l, 0)
	g.done = append(g.done, note{at, slices.Clone(l)})
}

func (g *ledger) read(t *testing.T, m *Mem, at, n int) {
	t.Helper()
	if !within(at, n, g.size) {
		readsNot(t, m, at, n)
		return
	}
	reads(t, m, at, n, g.numbers(at, n))
}

// dice are numbers that look like chance, the same ones each time.
type dice uint32

func (d *dice) below(n int) int {
	*d = *d*1664525 + 1013904223
	return int(*d>>8) % n
}
