package mem

import (
	"slices"
	"testing"

	"quilt/api"
)

func TestTheChaptersExample(t *testing.T) {
	m := New(4)
	writes(t, m, 2, []int8{5, 6}, api.OK)
	reads(t, m, 1, 3, []int8{0, 5, 6})
	readsNot(t, m, 2, 3)
}

// P11.1: New and Size

func TestSizesAreHeldWithinTheirBounds(t *testing.T) {
	for _, s := range sizes() {
		if n := New(s.asked).Size(); n != s.has {
			t.Errorf("New(%d) has %d, not %d", s.asked, n, s.has)
		}
	}
}

func TestAtFirstAllAreNought(t *testing.T) {
	for _, s := range sizes() {
		holds(t, New(s.asked), make([]int8, s.has))
	}
}

// The numbers that there are, are there: none more, none fewer.
func TestTheFirstAndTheLast(t *testing.T) {
	for _, s := range sizes() {
		m, want := New(s.asked), make([]int8, s.has)
		if s.has > 0 {
			writes(t, m, s.has-1, []int8{-128}, api.OK)
			writes(t, m, 0, []int8{127}, api.OK)
			want[s.has-1] = -128
			want[0] = 127
		}
		for _, at := range []int{-1, s.has, s.has + 1} {
			readsNot(t, m, at, 1)
			writes(t, m, at, []int8{9}, api.ErrAddress)
		}
		holds(t, m, want)
	}
}

// P11.1: Read

func TestReadOfEachPlaceAndLength(t *testing.T) {
	for size := range 10 {
		m, all := filled(t, size, 1), pattern(size, 1)
		for at := -4; at <= size+4; at++ {
			for n := -4; n <= size+4; n++ {
				if within(at, n, size) {
					reads(t, m, at, n, all[at:at+n])
				} else {
					readsNot(t, m, at, n)
				}
			}
		}
		holds(t, m, all)
	}
}

func TestReadUpToTheEndAndOneMore(t *testing.T) {
	for _, size := range few() {
		m, all := filled(t, size, 2), pattern(size, 2)
		for _, n := range []int{0, 1, 2, 3, 5, 63, 64, 255, 256, 1023, 1024, size / 2, size - 2, size - 1, size} {
			if n < 0 || n > size {
				continue
			}
			reads(t, m, size-n, n, all[size-n:])
			readsNot(t, m, size-n, n+1)
			readsNot(t, m, size-n+1, n)
			reads(t, m, 0, n, all[:n])
			readsNot(t, m, -1, n)
		}
		readsNot(t, m, 0, size+1)
	}
}

func TestReadOfNothing(t *testing.T) {
	for _, size := range few() {
		m := filled(t, size, 3)
		for _, at := range []int{0, size / 2, size - 1, size} {
			if at >= 0 {
				reads(t, m, at, 0, nil)
			}
		}
		for _, at := range []int{-2, -1, size + 1, size + 2, 2*size + 1} {
			readsNot(t, m, at, 0)
		}
		for _, at := range far() {
			readsNot(t, m, at, 0)
		}
	}
}

// Fewer than nothing are not read, wherever that would end.
func TestReadOfFewerThanNothing(t *testing.T) {
	for _, size := range few() {
		m := filled(t, size, 4)
		for _, n := range far() {
			for _, at := range []int{0, 1, size - 1, size, size + 1, size - n, -n} {
				if n < 0 {
					readsNot(t, m, at, n)
				}
			}
		}
		holds(t, m, pattern(size, 4))
	}
}

func TestReadFarOut(t *testing.T) {
	for _, size := range few() {
		m := filled(t, size, 5)
		near := []int{0, 1, 2, 4, size - 1, size, size + 1}
		for _, x := range far() {
			for _, y := range near {
				readsNot(t, m, x, y)
				readsNot(t, m, y, x)
			}
			// Both together are far beyond, or, gone round, some that there are.
			for _, y := range far() {
				readsNot(t, m, x, y)
			}
			readsNot(t, m, x, -x)
			readsNot(t, m, x, size-x)
			readsNot(t, m, size-x, x)
		}
		holds(t, m, pattern(size, 5))
	}
}

// P11.1: Write

func TestWriteAtEachPlaceAndLength(t *testing.T) {
	for size := range 10 {
		all := pattern(size, 6)
		for at := -4; at <= size+4; at++ {
			for n := range size + 4 {
				m, l := filled(t, size, 6), pattern(n, 7)
				if within(at, n, size) {
					writes(t, m, at, l, api.OK)
					holds(t, m, but(all, at, l))
				} else {
					writes(t, m, at, l, api.ErrAddress)
					holds(t, m, all)
				}
			}
		}
	}
}

// What is refused changes nothing, not even the numbers that there would be; what is written, those beside it neither.
func TestWriteUpToTheEndAndOneMore(t *testing.T) {
	for _, size := range few() {
		all := pattern(size, 8)
		m := filled(t, size, 8)
		for _, n := range []int{0, 1, 2, 3, 5, 63, 64, 255, 256, 1023, 1024, size / 2, size - 2, size - 1, size} {
			if n < 0 || n > size {
				continue
			}
			l := pattern(n, 9)
			writes(t, m, size-n, pattern(n+1, 10), api.ErrAddress)
			writes(t, m, size-n+1, pattern(n, 10), api.ErrAddress)
			writes(t, m, -1, pattern(n, 10), api.ErrAddress)
			writes(t, m, 0, pattern(size+1, 10), api.ErrAddress)
			holds(t, m, all)
			writes(t, m, size-n, l, api.OK)
			holds(t, m, but(all, size-n, l))
			writes(t, m, size-n, all[size-n:], api.OK)
			writes(t, m, 0, l, api.OK)
			holds(t, m, but(all, 0, l))
			writes(t, m, 0, all[:n], api.OK)
		}
		holds(t, m, all)
	}
}

func TestWriteOfNothing(t *testing.T) {
	for _, size := range few() {
		m := filled(t, size, 11)
		// A list of nothing with room behind its end has nothing in it all the same.
		for _, l := range [][]int8{nil, {}, pattern(9, 12)[:0]} {
			for _, at := range []int{0, size / 2, size - 1, size} {
				if at >= 0 {
					writes(t, m, at, l, api.OK)
				}
			}
			for _, at := range []int{-2, -1, size + 1, size + 2, 2*size + 1} {
				writes(t, m, at, l, api.ErrAddress)
			}
			for _, at := range far() {
				writes(t, m, at, l, api.ErrAddress)
			}
		}
		holds(t, m, pattern(size, 11))
	}
}

func TestWriteFarOut(t *testing.T) {
	for _, size := range few() {
		m := filled(t, size, 13)
		for _, n := range []int{1, 2, 4, 255, 256, size, size + 1, 65536, 65537, 1 << 17} {
			l := pattern(n, 14)
			for _, at := range far() {
				writes(t, m, at, l, api.ErrAddress)
			}
			for _, at := range []int{-n, -n - 1, -n + size, -1, size, size - n + 1} {
				if !within(at, n, size) {
					writes(t, m, at, l, api.ErrAddress)
				}
			}
		}
		holds(t, m, pattern(size, 13))
	}
}

// Each number that there can be, at each place of some.
func TestEachNumber(t *testing.T) {
	m := New(5)
	for x := -128; x <= 127; x++ {
		for at := range 5 {
			before, e := m.Read(0, 5)
			if e != api.OK {
				t.Fatal(e)
			}
			writes(t, m, at, []int8{int8(x)}, api.OK)
			holds(t, m, but(before, at, []int8{int8(x)}))
		}
	}
}

// P11.2

func TestWritesThatMeet(t *testing.T) {
	m := New(8)
	for _, x := range []struct {
		at   int
		l    []int8
		e    api.Errno
		want []int8
	}{
		{2, []int8{1, 2, 3}, api.OK, []int8{0, 0, 1, 2, 3, 0, 0, 0}},
		{4, []int8{4, 5}, api.OK, []int8{0, 0, 1, 2, 4, 5, 0, 0}},
		{1, []int8{-1, -2}, api.OK, []int8{0, -1, -2, 2, 4, 5, 0, 0}},
		{3, []int8{9}, api.OK, []int8{0, -1, -2, 9, 4, 5, 0, 0}},
		{6, []int8{7, 7, 7}, api.ErrAddress, []int8{0, -1, -2, 9, 4, 5, 0, 0}},
		{3, []int8{}, api.OK, []int8{0, -1, -2, 9, 4, 5, 0, 0}},
		{6, []int8{-128, 127}, api.OK, []int8{0, -1, -2, 9, 4, 5, -128, 127}},
		{-1, []int8{8, 8}, api.ErrAddress, []int8{0, -1, -2, 9, 4, 5, -128, 127}},
		{3, []int8{0}, api.OK, []int8{0, -1, -2, 0, 4, 5, -128, 127}},
		{0, []int8{1, 2, 3, 4, 5, 6, 7, 8}, api.OK, []int8{1, 2, 3, 4, 5, 6, 7, 8}},
		{0, []int8{0, 0, 0, 0}, api.OK, []int8{0, 0, 0, 0, 5, 6, 7, 8}},
		{0, []int8{1, 2, 3, 4, 5, 6, 7, 8, 9}, api.ErrAddress, []int8{0, 0, 0, 0, 5, 6, 7, 8}},
	} {
		writes(t, m, x.at, x.l, x.e)
		holds(t, m, x.want)
	}
}

// All rows of so many writes in a memory of three.
func TestAllShortTurns(t *testing.T) {
	const long, kinds = 3, 5 * 5
	rows := 1
	for range long {
		rows *= kinds
	}
	for row := range rows {
		m, g := New(3), ledger{size: 3}
		for turn := range long {
			g.write(t, m, row%5-1, pattern(row/5%5, 15+turn))
			row /= kinds
		}
		for at := -1; at <= 4; at++ {
			for n := -1; n <= 4; n++ {
				g.read(t, m, at, n)
			}
		}
	}
}

func TestLongTurns(t *testing.T) {
	for seed := range 30 {
		d := dice(seed)
		size := []int{1, 2, 7, 30, 100, 1024}[seed%6]
		m, g := New(size), ledger{size: size}
		told, refused := 0, 0
		for range 600 {
			// Now a long piece, now a short one; some of them reach beyond an end.
			at, n := d.below(size+2)-1, d.below(size+2)>>d.below(6)
			if within(at, n, size) {
				told++
			} else {
				refused++
			}
			if d.below(3) > 0 {
				g.write(t, m, at, pattern(n, d.below(1000)))
			} else {
				g.read(t, m, at, n)
			}
		}
		holds(t, m, g.numbers(0, size))
		if told < 100 || refused < 50 {
			t.Errorf("%d: %d times told, %d times refused", seed, told, refused)
		}
	}
}

// The greatest memory, written and read in pieces side by side, from either end.
func TestPiecesOfTheGreatest(t *testing.T) {
	all := pattern(65536, 16)
	for _, long := range []int{1, 7, 256, 4096, 65536} {
		up, down := New(65536), New(65536)
		for at := 0; at < len(all); at += long {
			n := min(long, len(all)-at)
			writes(t, up, at, all[at:at+n], api.OK)
		}
		for at := len(all) - 1; at >= 0; at -= long {
			from := max(at-long+1, 0)
			writes(t, down, from, all[from:at+1], api.OK)
		}
		holds(t, up, all)
		holds(t, down, all)
		for at := 0; at < len(all); at += long {
			n := min(long, len(all)-at)
			reads(t, up, at, n, all[at:at+n])
		}
	}
}

// What is read of one piece may be written at another one that it meets: it is as it was when it was read.
func TestReadHereAndWrittenThere(t *testing.T) {
	for from := range 8 {
		for to := range 8 {
			for n := range 8 {
				if from+n > 8 || to+n > 8 {
					continue
				}
				m, all := filled(t, 8, 17), pattern(8, 17)
				l, e := m.Read(from, n)
				if e != api.OK {
					t.Fatal(e)
				}
				writes(t, m, to, l, api.OK)
				holds(t, m, but(all, to, slices.Clone(all[from:from+n])))
			}
		}
	}
}
