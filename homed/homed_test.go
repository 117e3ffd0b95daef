package homed_test

import (
	"testing"

	"weighlock/api"
	"weighlock/homed"
	"weighlock/locktest"
)

func TestWrongHomes(t *testing.T) {
	for _, homes := range locktest.NoHomes() {
		if s, e := homed.Seats(homes, false, false); s != nil || e != api.ErrArg {
			t.Errorf("Seats(%v) = %v, %d", homes, s, e)
		}
	}
}

func TestRightHomes(t *testing.T) {
	for n := 1; n <= api.MaxThreads; n++ {
		for first := range api.MaxNodes {
			s, e := homed.Seats(locktest.Homes(n, first), false, false)
			if e != api.OK || s.Len() != n {
				t.Errorf("%d contexts: %d", n, e)
			}
		}
	}
}

// What is taken is as it is asked for.
func TestTimedAndProbed(t *testing.T) {
	for _, timed := range []bool{false, true} {
		for _, probed := range []bool{false, true} {
			s, _ := homed.Seats([]int{1, 2}, timed, probed)
			if got := s.Lock(0, 5) == api.OK; got != timed {
				t.Errorf("a deadline is taken: %t, want %t", got, timed)
			}
			if got := s.Probe(1) == api.ErrNotHeld; got != probed {
				t.Errorf("Probe is taken: %t, want %t", got, probed)
			}
		}
	}
}
