package region

import (
	"testing"

	"quilt/api"
)

// asks holds May of a span against want, as it is read and as it is written.
func asks(t *testing.T, s api.Span, want api.Errno) {
	t.Helper()
	for _, write := range []bool{false, true} {
		s.Write = write
		if e := May(s); e != want {
			t.Errorf("May of %+v: %d, not %d", s, e, want)
		}
	}
}

// P12.1: May

func TestBothEndsOfEitherMemory(t *testing.T) {
	for mem, size := range []int{65536, 1024} {
		for _, x := range []struct {
			from, to int
			want     api.Errno
		}{
			{0, size, api.OK}, {0, 1, api.OK}, {0, size - 1, api.OK}, {1, size, api.OK}, {size - 1, size, api.OK}, {5, 9, api.OK},
			// Of no numbers.
			{0, 0, api.OK}, {1, 1, api.OK}, {size - 1, size - 1, api.OK}, {size, size, api.OK},
			{size + 1, size + 1, api.ErrAddress}, {-1, -1, api.ErrAddress},
			// One number beyond.
			{0, size + 1, api.ErrAddress}, {size - 1, size + 1, api.ErrAddress}, {size, size + 1, api.ErrAddress}, {size + 1, size + 2, api.ErrAddress},
			// From below 0.
			{-1, 0, api.ErrAddress}, {-1, 1, api.ErrAddress}, {-1, size, api.ErrAddress}, {-1, size + 1, api.ErrAddress}, {-2, -1, api.ErrAddress},
			// To below From.
			{1, 0, api.ErrAddress}, {9, 5, api.ErrAddress}, {size, size - 1, api.ErrAddress}, {size, 0, api.ErrAddress}, {0, -1, api.ErrAddress}, {size + 1, size, api.ErrAddress}, {-1, -2, api.ErrAddress},
		} {
			asks(t, api.Span{Mem: mem, From: x.from, To: x.to}, x.want)
		}
	}
}

// What lies within the one memory alone lies beyond the other one.
func TestEachMemoryHasItsOwnSize(t *testing.T) {
	asks(t, r0(1024, 1025), api.OK)
	asks(t, r1(1024, 1025), api.ErrAddress)
	asks(t, r0(0, 65536), api.OK)
	asks(t, r1(0, 65536), api.ErrAddress)
	asks(t, r0(1025, 1025), api.OK)
	asks(t, r1(1025, 1025), api.ErrAddress)
}

// ErrArg is told first, also of a span that is wrong in other ways.
func TestMemoriesThatThereAreNot(t *testing.T) {
	for _, mem := range append(far(), 2, 3, 7, 1024, 65536) {
		for _, x := range [][2]int{{0, 0}, {0, 1}, {0, 1024}, {0, 65536}, {-1, 0}, {1, 0}, {0, 65537}, {70000, 60000}} {
			asks(t, api.Span{Mem: mem, From: x[0], To: x[1]}, api.ErrArg)
		}
	}
}

func TestMayOfAllNearTheBounds(t *testing.T) {
	numbers := far()
	for _, edge := range []int{0, 1024, 65536} {
		for x := edge - 4; x <= edge+4; x++ {
			numbers = append(numbers, x)
		}
	}
	there := 0
	for _, mem := range append(far(), 0, 1, 2, 3) {
		for _, from := range numbers {
			for _, to := range numbers {
				s := api.Span{Mem: mem, From: from, To: to}
				asks(t, s, mayBe(s))
				if mayBe(s) == api.OK {
					there++
				}
			}
		}
	}
	// Of DRAM 19 numbers are within (5 near 0, 9 near 1024, 5 near 65536), of the scratchpad 10: so many pairs in order.
	if there != 19*20/2+10*11/2 {
		t.Errorf("%d may be", there)
	}
}
