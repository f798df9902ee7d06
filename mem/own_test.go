package mem

import (
	"slices"
	"testing"

	"quilt/api"
)

// P11.1: Clone

func TestACloneHasTheSame(t *testing.T) {
	for _, size := range few() {
		m, all := filled(t, size, 1), pattern(size, 1)
		c := m.Clone()
		if c == m {
			t.Fatalf("a clone of %d is the same thing", size)
		}
		holds(t, c, all)
		holds(t, m, all)
		holds(t, c.Clone(), all)
		holds(t, New(size).Clone(), make([]int8, size))
	}
	for _, s := range sizes() {
		if n := New(s.asked).Clone().Size(); n != s.has {
			t.Errorf("a clone of New(%d) has %d, not %d", s.asked, n, s.has)
		}
	}
}

// What is done of one is not seen by the other, whichever it is.
func TestACloneGoesItsOwnWay(t *testing.T) {
	for _, size := range few() {
		all := pattern(size, 2)
		for _, n := range []int{1, 2, size / 2, size - 1, size} {
			if n < 1 || n > size {
				continue
			}
			for _, at := range []int{0, (size - n) / 2, size - n} {
				m := filled(t, size, 2)
				for _, x := range [][2]*Mem{{m, m.Clone()}, {m.Clone(), m}} {
					done, other := x[0], x[1]
					l := pattern(n, 3)
					writes(t, done, at, l, api.OK)
					holds(t, done, but(all, at, l))
					holds(t, other, all)
					writes(t, done, at, all[at:at+n], api.OK)
				}
			}
		}
	}
}

// A clone has both ends where its origin has them.
func TestACloneHasTheSameEnds(t *testing.T) {
	for _, size := range few() {
		c, all := filled(t, size, 4).Clone(), pattern(size, 4)
		for _, at := range []int{-1, size, size + 1} {
			readsNot(t, c, at, 1)
			writes(t, c, at, []int8{9}, api.ErrAddress)
		}
		readsNot(t, c, 0, size+1)
		readsNot(t, c, 0, -1)
		readsNot(t, c, size+1, 0)
		writes(t, c, 0, pattern(size+1, 5), api.ErrAddress)
		writes(t, c, size+1, nil, api.ErrAddress)
		holds(t, c, all)
		writes(t, c, 0, pattern(size, 5), api.OK)
		holds(t, c, pattern(size, 5))
	}
}

// Clones of clones, each with a ledger of its own, by turns.
func TestManyClones(t *testing.T) {
	const size = 12
	for seed := range 20 {
		d := dice(seed)
		mems, ledgers := []*Mem{New(size)}, []ledger{{size: size}}
		for range 1500 {
			k := d.below(len(mems))
			if d.below(100) == 0 {
				own := ledgers[k]
				own.done = slices.Clone(own.done)
				mems, ledgers = append(mems, mems[k].Clone()), append(ledgers, own)
			}
			ledgers[k].write(t, mems[k], d.below(size+2)-1, pattern(d.below(6), d.below(1000)))
			ledgers[k].read(t, mems[k], d.below(size+2)-1, d.below(6)-1)
		}
		for k, m := range mems {
			holds(t, m, ledgers[k].numbers(0, size))
		}
	}
}

// R7

// scribble makes other numbers of a list, and of the room behind its end.
func scribble(l []int8) {
	for i := range l[:cap(l)] {
		l[:cap(l)][i] += 77
	}
}

func TestWhatIsReadIsOnesOwn(t *testing.T) {
	for _, size := range few() {
		all := pattern(size, 6)
		for _, n := range []int{0, 1, size / 2, size} {
			if n > size {
				continue
			}
			for _, at := range []int{0, (size - n) / 2, size - n} {
				m := filled(t, size, 6)
				c := m.Clone()
				first, _ := m.Read(at, n)
				second, _ := m.Read(at, n)
				third, _ := m.Read(at, n)
				// Those that are told ahead of another one and behind it are changed, with the room behind them.
				scribble(first)
				scribble(third)
				if !slices.Equal(second, all[at:at+n]) {
					t.Fatalf("Read(%d, %d) of %d is shared", at, n, size)
				}
				holds(t, m, all)
				holds(t, c, all)
				// What was told stays as it was, whatever is written later.
				writes(t, m, 0, pattern(size, 7), api.OK)
				if !slices.Equal(second, all[at:at+n]) {
					t.Fatalf("what Read(%d, %d) of %d told changes", at, n, size)
				}
			}
		}
	}
}

func TestWhatIsWrittenIsNotKept(t *testing.T) {
	for _, size := range few() {
		all := pattern(size, 8)
		for _, n := range []int{0, 1, size / 2, size} {
			if n > size {
				continue
			}
			for _, at := range []int{0, (size - n) / 2, size - n} {
				m := filled(t, size, 8)
				room := pattern(n+9, 9)
				l := room[:n]
				writes(t, m, at, l, api.OK)
				want := but(all, at, pattern(n, 9))
				scribble(l)
				holds(t, m, want)
				holds(t, m.Clone(), want)
			}
		}
	}
}

func TestWhatIsHandedInStaysAsItWas(t *testing.T) {
	for _, size := range few() {
		for _, n := range []int{0, 1, size / 2, size, size + 1} {
			for _, at := range []int{-1, 0, size / 2, size - n, size} {
				m := filled(t, size, 10)
				// With room behind the list's end, and ahead of where it begins.
				room := pattern(n+9, 11)
				m.Write(at, room[4:4+n])
				m.Write(0, pattern(size, 12))
				m.Read(at, n)
				if !slices.Equal(room, pattern(n+9, 11)) {
					t.Fatalf("Write(%d, %d numbers) of %d changes what was handed in", at, n, size)
				}
			}
		}
	}
}

// R6

func TestNewOnesGoTheirOwnWays(t *testing.T) {
	for _, size := range few() {
		a, b := New(size), New(size)
		if a == b {
			t.Fatal("New tells the same thing two times")
		}
		writes(t, a, 0, pattern(size, 13), api.OK)
		holds(t, b, make([]int8, size))
		writes(t, b, 0, pattern(size, 14), api.OK)
		holds(t, a, pattern(size, 13))
		holds(t, b, pattern(size, 14))
		holds(t, New(size), make([]int8, size))
	}
}

func TestAskingChangesNothing(t *testing.T) {
	for size := range 7 {
		m := filled(t, size, 15)
		for at := -3; at < size+3; at++ {
			for n := -3; n < size+3; n++ {
				m.Read(at, n)
				m.Size()
				m.Clone()
				New(n)
			}
		}
		holds(t, m, pattern(size, 15))
	}
}

// The same calls are answered the same, whatever was done of others.
func TestAskedAgain(t *testing.T) {
	const size = 20
	for seed := range 20 {
		d := dice(seed)
		a, b, other := New(size), New(size), New(size)
		for range 1000 {
			at, n, salt := d.below(size+2)-1, d.below(7), d.below(1000)
			other.Write(d.below(size), pattern(d.below(7), d.below(1000)))
			if x, y := a.Write(at, pattern(n, salt)), b.Write(at, pattern(n, salt)); x != y {
				t.Fatalf("Write(%d, %d numbers): %d and %d", at, n, x, y)
			}
			from := d.below(size+2) - 1
			x, e := a.Read(from, n)
			y, f := b.Read(from, n)
			if e != f || !slices.Equal(x, y) || (x == nil) != (y == nil) {
				t.Fatalf("Read(%d, %d): %v, %d and %v, %d", from, n, x, e, y, f)
			}
		}
	}
}
