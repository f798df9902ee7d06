package sema

import (
	"slices"
	"testing"

	"quilt/api"
)

// P10.1: Clone

func TestACloneCountsTheSame(t *testing.T) {
	for _, counts := range levels() {
		s := at(t, counts)
		c := s.Clone()
		if c == s {
			t.Fatalf("a clone of %v is the same thing", counts)
		}
		count(t, c, counts)
		count(t, s, counts)
		count(t, c.Clone(), counts)
	}
}

// What is done of one is not seen by the other, whichever it is.
func TestACloneGoesItsOwnWay(t *testing.T) {
	for _, counts := range levels() {
		for i := range 8 {
			s := at(t, counts)
			for _, x := range [][2]*Sems{{s, s.Clone()}, {s.Clone(), s}} {
				done, other := x[0], x[1]
				for range 16 {
					done.Signal(i)
				}
				count(t, done, but(counts, i, 15))
				count(t, other, counts)
				for range 16 {
					done.Wait(i)
				}
				count(t, done, but(counts, i, 0))
				count(t, other, counts)
				for range counts[i] {
					signals(t, done, i, api.OK)
				}
				count(t, done, counts)
			}
		}
	}
}

// A clone has both ends where its origin has them.
func TestACloneHasTheSameEnds(t *testing.T) {
	for _, counts := range levels() {
		for i, n := range counts {
			c := at(t, counts).Clone()
			for range 15 - n {
				signals(t, c, i, api.OK)
			}
			signals(t, c, i, api.ErrFull)
			count(t, c, but(counts, i, 15))
			c = c.Clone()
			signals(t, c, i, api.ErrFull)
			for range 15 {
				waits(t, c, i, api.OK)
			}
			waits(t, c, i, api.ErrBlocked)
			count(t, c, but(counts, i, 0))
			waits(t, c.Clone(), i, api.ErrBlocked)
		}
		c := at(t, counts).Clone()
		for _, i := range none() {
			waits(t, c, i, api.ErrArg)
			signals(t, c, i, api.ErrArg)
		}
		count(t, c, counts)
	}
}

// Clones of clones, each with a ledger of its own, by turns.
func TestManyClones(t *testing.T) {
	for seed := range 20 {
		d := dice(seed)
		sems, ledgers := []*Sems{New()}, []ledger{{}}
		for range 3000 {
			k := d.below(len(sems))
			if d.below(100) == 0 {
				sems, ledgers = append(sems, sems[k].Clone()), append(ledgers, ledgers[k])
			}
			ledgers[k].call(t, sems[k], d.below(10)-1, d.below(5) < 3)
		}
		for k, s := range sems {
			count(t, s, ledgers[k].counts())
		}
	}
}

// R6, R7

func TestAllIsOnesOwn(t *testing.T) {
	for _, counts := range levels() {
		s := at(t, counts)
		first, second, third := s.All(), s.All(), s.All()
		// Those that are told ahead of another one and behind it are changed, with the room behind them.
		for _, l := range [][]int{first, third} {
			for i := range l[:cap(l)] {
				l[:cap(l)][i] = 77
			}
			if !slices.Equal(second, counts) {
				t.Fatalf("All of %v is shared: %v", counts, second)
			}
			for i, want := range counts {
				if n := s.Count(i); n != want {
					t.Fatalf("Count(%d) of %v goes by what All told: %d", i, counts, n)
				}
			}
		}
		count(t, s, counts)
		// What was told stays as it was, whatever is done later.
		for i := range 8 {
			s.Signal(i)
			s.Wait((i + 1) % 8)
		}
		s.Signal(3)
		if !slices.Equal(second, counts) {
			t.Fatalf("All of %v changes: %v", counts, second)
		}
	}
}

func TestNewOnesGoTheirOwnWays(t *testing.T) {
	a, b := New(), New()
	if a == b {
		t.Fatal("New tells the same thing two times")
	}
	signals(t, a, 2, api.OK)
	waits(t, b, 2, api.ErrBlocked)
	for range 15 {
		signals(t, b, 2, api.OK)
	}
	signals(t, a, 2, api.OK)
	count(t, a, []int{0, 0, 2, 0, 0, 0, 0, 0})
	count(t, b, []int{0, 0, 15, 0, 0, 0, 0, 0})
	count(t, New(), make([]int, 8))
}

func TestAskingChangesNothing(t *testing.T) {
	for _, counts := range levels() {
		s := at(t, counts)
		for i := -20; i < 40; i++ {
			s.Count(i)
			s.All()
			s.Clone()
		}
		count(t, s, counts)
	}
}

// The same calls are answered the same, whatever was done of others.
func TestAskedAgain(t *testing.T) {
	for seed := range 20 {
		d := dice(seed)
		a, b, other := New(), New(), New()
		for range 2000 {
			i, signal := d.below(10)-1, d.below(2) == 0
			other.Signal(d.below(8))
			other.Wait(d.below(8))
			var x, y api.Errno
			if signal {
				x, y = a.Signal(i), b.Signal(i)
			} else {
				x, y = a.Wait(i), b.Wait(i)
			}
			if x != y || !slices.Equal(a.All(), b.All()) {
				t.Fatalf("%d and %d: %v and %v", x, y, a.All(), b.All())
			}
		}
	}
}
