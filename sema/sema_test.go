package sema

import (
	"testing"

	"quilt/api"
)

// P10.1: New

func TestTheChaptersExample(t *testing.T) {
	s := New()
	waits(t, s, 0, api.ErrBlocked)
	signals(t, s, 0, api.OK)
	waits(t, s, 0, api.OK)
	waits(t, s, 0, api.ErrBlocked)
}

func TestAtFirstAllCountNothing(t *testing.T) {
	s := New()
	count(t, s, []int{0, 0, 0, 0, 0, 0, 0, 0})
	for i := range 8 {
		waits(t, s, i, api.ErrBlocked)
	}
	count(t, s, []int{0, 0, 0, 0, 0, 0, 0, 0})
}

// P10.1: Wait, Signal and Count of a semaphore that there is not

func TestThereIsNone(t *testing.T) {
	for _, counts := range levels() {
		s := at(t, counts)
		for _, i := range none() {
			waits(t, s, i, api.ErrArg)
			signals(t, s, i, api.ErrArg)
			waits(t, s, i, api.ErrArg)
			if r := s.Count(i); r != 0 {
				t.Errorf("Count(%d) with %v: %d", i, counts, r)
			}
		}
		count(t, s, counts)
	}
}

func TestTheFirstAndTheLast(t *testing.T) {
	s := New()
	for i := -3; i < 12; i++ {
		want := api.ErrArg
		if i >= 0 && i < 8 {
			want = api.OK
		}
		signals(t, s, i, want)
	}
	count(t, s, []int{1, 1, 1, 1, 1, 1, 1, 1})
	for i := -3; i < 12; i++ {
		want := api.ErrArg
		if i >= 0 && i < 8 {
			want = api.OK
		}
		waits(t, s, i, want)
	}
	count(t, s, make([]int, 8))
}

// P10.1: Wait and Signal of those that there are

func TestUpAndDown(t *testing.T) {
	for i := range 8 {
		s, nothing := New(), make([]int, 8)
		for range 3 {
			for n := range 15 {
				count(t, s, but(nothing, i, n))
				signals(t, s, i, api.OK)
			}
			for range 20 {
				count(t, s, but(nothing, i, 15))
				signals(t, s, i, api.ErrFull)
			}
			for n := range 15 {
				count(t, s, but(nothing, i, 15-n))
				waits(t, s, i, api.OK)
			}
			for range 20 {
				count(t, s, nothing)
				waits(t, s, i, api.ErrBlocked)
			}
		}
	}
}

func TestWaitAtNoughtAndAtOne(t *testing.T) {
	for _, counts := range levels() {
		for i := range 8 {
			s := at(t, but(counts, i, 0))
			waits(t, s, i, api.ErrBlocked)
			count(t, s, but(counts, i, 0))
			s = at(t, but(counts, i, 1))
			waits(t, s, i, api.OK)
			count(t, s, but(counts, i, 0))
			waits(t, s, i, api.ErrBlocked)
			count(t, s, but(counts, i, 0))
		}
	}
}

func TestSignalAtTheLastButOneAndAtTheLast(t *testing.T) {
	for _, counts := range levels() {
		for i := range 8 {
			s := at(t, but(counts, i, 15))
			signals(t, s, i, api.ErrFull)
			count(t, s, but(counts, i, 15))
			s = at(t, but(counts, i, 14))
			signals(t, s, i, api.OK)
			count(t, s, but(counts, i, 15))
			signals(t, s, i, api.ErrFull)
			count(t, s, but(counts, i, 15))
			// What was refused isn't kept for later.
			waits(t, s, i, api.OK)
			count(t, s, but(counts, i, 14))
		}
	}
}

// Each count with each call, whatever the others count: one more or one less, or what is told of its end.
func TestEachCount(t *testing.T) {
	for _, counts := range levels() {
		for i := range 8 {
			for n := range 16 {
				s, e := at(t, but(counts, i, n)), api.OK
				after := n + 1
				if n == 15 {
					e, after = api.ErrFull, n
				}
				signals(t, s, i, e)
				count(t, s, but(counts, i, after))
				s, e, after = at(t, but(counts, i, n)), api.OK, n-1
				if n == 0 {
					e, after = api.ErrBlocked, n
				}
				waits(t, s, i, e)
				count(t, s, but(counts, i, after))
			}
		}
	}
}

func TestTurns(t *testing.T) {
	s := New()
	for _, x := range []struct {
		signal bool
		i      int
		e      api.Errno
		want   []int
	}{
		{true, 3, api.OK, []int{0, 0, 0, 1, 0, 0, 0, 0}},
		{false, 2, api.ErrBlocked, []int{0, 0, 0, 1, 0, 0, 0, 0}},
		{true, 7, api.OK, []int{0, 0, 0, 1, 0, 0, 0, 1}},
		{true, 3, api.OK, []int{0, 0, 0, 2, 0, 0, 0, 1}},
		{true, 8, api.ErrArg, []int{0, 0, 0, 2, 0, 0, 0, 1}},
		{true, 0, api.OK, []int{1, 0, 0, 2, 0, 0, 0, 1}},
		{false, 3, api.OK, []int{1, 0, 0, 1, 0, 0, 0, 1}},
		{false, -1, api.ErrArg, []int{1, 0, 0, 1, 0, 0, 0, 1}},
		{false, 0, api.OK, []int{0, 0, 0, 1, 0, 0, 0, 1}},
		{false, 0, api.ErrBlocked, []int{0, 0, 0, 1, 0, 0, 0, 1}},
		{false, 7, api.OK, []int{0, 0, 0, 1, 0, 0, 0, 0}},
		{false, 3, api.OK, []int{0, 0, 0, 0, 0, 0, 0, 0}},
		{false, 3, api.ErrBlocked, []int{0, 0, 0, 0, 0, 0, 0, 0}},
	} {
		if x.signal {
			signals(t, s, x.i, x.e)
		} else {
			waits(t, s, x.i, x.e)
		}
		count(t, s, x.want)
	}
}

// P10.1: All

func TestAllInOrder(t *testing.T) {
	for _, counts := range levels() {
		count(t, at(t, counts), counts)
	}
}

// P10.2

// All rows of so many calls of two semaphores and of one that there is not.
func TestAllShortTurns(t *testing.T) {
	const long = 6
	rows := 1
	for range long {
		rows *= 6
	}
	for row := range rows {
		s, l := New(), ledger{}
		for range long {
			l.call(t, s, []int{0, 7, 8}[row%3], row/3%2 == 0)
			row /= 6
		}
		count(t, s, l.counts())
	}
}

func TestLongTurns(t *testing.T) {
	for seed := range 40 {
		d := dice(seed)
		s, l := New(), ledger{}
		blocked, full := 0, 0
		// Now more is signalled, now more is waited for: so that both ends are met.
		for turn := range 4000 {
			i, signal := d.below(10)-1, d.below(10) < 2+turn/400%2*6
			l.call(t, s, i, signal)
			if turn%7 == 0 {
				count(t, s, l.counts())
			}
			if i >= 0 && i < 8 && s.Count(i) == 0 {
				blocked++
			}
			if i >= 0 && i < 8 && s.Count(i) == 15 {
				full++
			}
		}
		count(t, s, l.counts())
		if blocked < 100 || full < 100 {
			t.Errorf("%d: %d times at 0, %d times at 15", seed, blocked, full)
		}
	}
}

func TestMoreTurnsThanAnyCount(t *testing.T) {
	s, l := New(), ledger{}
	for range 100000 {
		l.call(t, s, 5, true)
		l.call(t, s, 5, false)
		l.call(t, s, 6, true)
		l.call(t, s, 6, true)
		l.call(t, s, 6, false)
	}
	if l.signalled[5] != 100000 || l.signalled[6] != 100014 {
		t.Fatalf("signalled: %v", l.signalled)
	}
	count(t, s, []int{0, 0, 0, 0, 0, 0, 14, 0})
}
