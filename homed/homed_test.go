package homed_test

import (
	"testing"

	"weighlock/api"
	"weighlock/homed"
	"weighlock/locktest"
	"weighlock/seat"
)

func TestWrongHomes(t *testing.T) {
	for _, homes := range locktest.NoHomes() {
		if s, e := homed.Seats(homes, false, false); s != nil || e != api.ErrArg {
			t.Errorf("Seats(%v) = %v, %d", homes, s, e)
		}
	}
}

func TestRightHomes(t *testing.T) {
	for n := 1; n <= api.MaxThreads; n++ {
		for first := range api.MaxNodes {
			s, e := homed.Seats(locktest.Homes(n, first), false, false)
			if e != api.OK || s.Len() != n {
				t.Errorf("%d contexts: %d", n, e)
			}
		}
	}
}

// What is taken is as it is asked for.
func TestTimedAndProbed(t *testing.T) {
	for _, timed := range []bool{false, true} {
		for _, probed := range []bool{false, true} {
			s, _ := homed.Seats([]int{1, 2}, timed, probed)
			if got := s.Lock(0, 5) == api.OK; got != timed {
				t.Errorf("a deadline is taken: %t, want %t", got, timed)
			}
			if got := s.Probe(1) == api.ErrNotHeld; got != probed {
				t.Errorf("Probe is taken: %t, want %t", got, probed)
			}
		}
	}
}

// done is which step of each call was done: of which context, by which thread.
type done struct{ lock, unlock, probe [2]int }

// calls are steps that each come to this event.
func (d *done) calls(event int) homed.Calls {
	step := func(last *[2]int) func(t, as int) api.Did {
		return func(t, as int) api.Did {
			*last = [2]int{t, as}
			return api.Did{Event: event, Enq: true}
		}
	}
	return homed.Calls{Lock: step(&d.lock), Unlock: step(&d.unlock), Probe: step(&d.probe)}
}

// bring brings a context that is idle to a state.
func bring(s *seat.Seats, t, state int) {
	if state != api.Idle {
		s.Lock(t, -1)
	}
	if state != api.Idle && state != api.Locking {
		s.End(t, api.Granted)
	}
	switch state {
	case api.Unlocking:
		s.Unlock(t)
	case api.Probing:
		s.Probe(t)
	}
}

// A step is one of the call that is under way, and what it comes to ends that
// call, but none of another context.
func TestStepIsOfWhatIsUnderWay(t *testing.T) {
	step := [2]int{1, 40}
	for _, c := range []struct {
		state, event, behind int
		want                 done
	}{
		{api.Idle, api.Granted, api.Idle, done{}},
		{api.Holding, api.Released, api.Holding, done{}},
		{api.Locking, api.None, api.Locking, done{lock: step}},
		{api.Locking, api.Granted, api.Holding, done{lock: step}},
		{api.Locking, api.TimedOut, api.Idle, done{lock: step}},
		{api.Locking, api.Refused, api.Idle, done{lock: step}},
		{api.Unlocking, api.None, api.Unlocking, done{unlock: step}},
		{api.Unlocking, api.Released, api.Idle, done{unlock: step}},
		{api.Probing, api.None, api.Probing, done{probe: step}},
		{api.Probing, api.Alone, api.Holding, done{probe: step}},
		{api.Probing, api.Company, api.Holding, done{probe: step}},
	} {
		s, _ := homed.Seats([]int{1, 2, 3}, true, true)
		for other := range 3 {
			bring(s, other, c.state)
		}
		var d done
		did := homed.Step(s, 1, 40, d.calls(c.event))
		if d != c.want || s.State(1) != c.behind || s.State(0) != c.state || s.State(2) != c.state {
			t.Errorf("%v: did %v, states %d, %d, %d", c, d, s.State(0), s.State(1), s.State(2))
		}
		want := api.Did{Event: c.event, Enq: true}
		if c.want == (done{}) {
			want = api.Did{}
		}
		if did != want {
			t.Errorf("%v: %v, want %v", c, did, want)
		}
	}
}

func TestStepOfNoContext(t *testing.T) {
	for _, n := range []int{1, 3, 64} {
		s, _ := homed.Seats(locktest.Homes(n, 0), true, true)
		bring(s, n-1, api.Locking)
		for _, c := range locktest.NoContexts(n) {
			var d done
			if did := homed.Step(s, c, 0, d.calls(api.Granted)); did != (api.Did{}) || d != (done{}) {
				t.Errorf("%d contexts, a step of %d: %v, %v", n, c, did, d)
			}
		}
		if got := s.State(n - 1); got != api.Locking {
			t.Errorf("State(%d) = %d", n-1, got)
		}
	}
}
