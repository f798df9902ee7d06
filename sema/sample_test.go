package sema

import (
	"math"
	"slices"
	"testing"

	"quilt/api"
)

// none are numbers of semaphores that there are not.
func none() []int {
	return []int{-1, -2, -7, -8, -9, -15, -16, -256, -1 << 32, -1<<32 + 3, math.MinInt32, math.MinInt, math.MinInt + 3, api.MaxSems, api.MaxSems + 1, 15, 16, 255, 256, 259, 1 << 16, math.MaxInt32, 1 << 32, 1<<32 + 3, math.MaxInt}
}

// levels are counts of all semaphores: none, all full, each one alone, and all unlike.
func levels() [][]int {
	l := [][]int{make([]int, 8), {15, 15, 15, 15, 15, 15, 15, 15}, {0, 1, 2, 3, 4, 5, 6, 7}, {15, 14, 13, 12, 11, 10, 9, 8}, {0, 15, 1, 14, 7, 8, 0, 15}, {1, 1, 1, 1, 1, 1, 1, 1}, {14, 14, 14, 14, 14, 14, 14, 14}, {3, 0, 15, 0, 1, 0, 0, 2}}
	for i := range api.MaxSems {
		for _, count := range []int{1, 2, 14, 15} {
			one := make([]int, 8)
			one[i] = count
			l = append(l, one)
		}
	}
	return l
}

// at are semaphores that count so much.
func at(t *testing.T, counts []int) *Sems {
	t.Helper()
	s := New()
	for i, count := range counts {
		for range count {
			signals(t, s, i, api.OK)
		}
	}
	count(t, s, counts)
	return s
}

// count asks what all count, in both ways.
func count(t *testing.T, s *Sems, want []int) {
	t.Helper()
	if l := s.All(); !slices.Equal(l, want) {
		t.Fatalf("All: %v, not %v", l, want)
	}
	for i, x := range want {
		if r := s.Count(i); r != x {
			t.Fatalf("Count(%d): %d, not %d", i, r, x)
		}
	}
}

func waits(t *testing.T, s *Sems, i int, want api.Errno) {
	t.Helper()
	if e := s.Wait(i); e != want {
		t.Fatalf("Wait(%d): %d, not %d", i, e, want)
	}
}

func signals(t *testing.T, s *Sems, i int, want api.Errno) {
	t.Helper()
	if e := s.Signal(i); e != want {
		t.Fatalf("Signal(%d): %d, not %d", i, e, want)
	}
}

// but is counts with a number of them another one.
func but(counts []int, i, x int) []int {
	l := slices.Clone(counts)
	l[i] = x
	return l
}

// A ledger is what the chapter's words make of calls: of each semaphore how often it was signalled, and waited for.
type ledger struct{ signalled, waited [8]int }

func (l *ledger) counts() []int {
	r := make([]int, 8)
	for i := range r {
		r[i] = l.signalled[i] - l.waited[i]
	}
	return r
}

// call does one call of both, and asks whether they tell the same.
func (l *ledger) call(t *testing.T, s *Sems, i int, signal bool) {
	t.Helper()
	there := i >= 0 && i <= 7
	switch {
	case signal && !there:
		signals(t, s, i, 1)
	case signal && l.signalled[i]-l.waited[i] == 15:
		signals(t, s, i, 22)
	case signal:
		signals(t, s, i, 0)
		l.signalled[i]++
	case !there:
		waits(t, s, i, 1)
	case l.signalled[i] == l.waited[i]:
		waits(t, s, i, 20)
	default:
		waits(t, s, i, 0)
		l.waited[i]++
	}
}

// dice are numbers that look like chance, the same ones each time.
type dice uint32

func (d *dice) below(n int) int {
	*d = *d*1664525 + 1013904223
	return int(*d>>8) % n
}
