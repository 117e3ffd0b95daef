package fifo_test

import (
	"slices"
	"testing"

	"weighlock/api"
	"weighlock/event"
	"weighlock/locktest"
	"weighlock/machine"
	"weighlock/trace"
)

// firstCome are configurations of threads with these homes of each kind that is
// first come, first served.
func firstCome(homes []int) []api.Config {
	var cs []api.Config
	for _, c := range locktest.Many(homes) {
		if c.Kind <= api.Abort {
			cs = append(cs, c)
		}
	}
	return cs
}

// few are some of them, one of each kind, where each sees its numbers go round or
// its nodes run out soon.
func few(homes []int) []api.Config {
	cs := locktest.Plain(homes)[:api.Abort]
	cs[0].Start = 1<<32 - 1
	cs[4].Pool = 2
	return cs
}

// run is a machine, and the automaton that takes what it enters.
type run struct {
	*machine.Machine
	pair  *pair
	taken int
}

// runs is a machine of a configuration, at first.
func runs(t *testing.T, c api.Config) *run {
	t.Helper()
	m, e := machine.New(c)
	if e != api.OK {
		t.Fatalf("New(%v): %d", c, e)
	}
	return &run{Machine: m, pair: starts(t, len(c.Homes))}
}

// does does an event; all that is entered must fit, and behind it the same one
// must be holding, and the same ones must wait.
func (x *run) does(e event.Event) {
	x.pair.Helper()
	x.Do(e)
	l := x.Trace()
	for _, e := range l[x.taken:] {
		x.pair.fits(e)
	}
	x.taken = len(l)
	x.agrees(l)
}

// agrees asks that who is Holding in the machine is holding, and that who is
// queued is Locking.
func (x *run) agrees(l []trace.Entry) {
	x.pair.Helper()
	holder, held := 0, false
	for t := range x.Len() {
		if x.State(t) == api.Holding {
			holder, held = t, true
		}
	}
	if t, ok := x.pair.lock.Holder(); t != holder || ok != held {
		x.pair.Fatalf("behind %v: Holder() = %d, %t, in the machine it is %d, %t", l, t, ok, holder, held)
	}
	for _, t := range x.pair.lock.Queue() {
		if x.State(t) != api.Locking {
			x.pair.Fatalf("behind %v: %d is queued; in the machine its state is %d", l, t, x.State(t))
		}
	}
}

// ends asks that all that was entered is a trace, and so is each beginning; and
// that it has entries of these kinds.
func (x *run) ends(kinds ...int) {
	x.pair.Helper()
	l := x.Trace()
	isTrace(x.pair.T, x.Len(), l)
	if !orderly(l) {
		x.pair.Fatalf("%v isn't orderly", l)
	}
	for _, kind := range kinds {
		if trace.Count(l, kind) == 0 {
			x.pair.Fatalf("%d entries, none of the kind %d", len(l), kind)
		}
	}
}

// Any events, wrong ones among them.
func TestMachinesAnyEventsP19_1(t *testing.T) {
	r := locktest.Numbers(197)
	for _, homes := range locktest.Crowds() {
		for _, c := range firstCome(homes) {
			x := runs(t, c)
			for range 150 {
				x.does(locktest.AnyEvent(&r, len(homes)))
			}
			x.ends()
		}
	}
}

// Long ways, in which threads do what comes next; some have deadlines, where these
// are taken.
func TestMachinesLongWaysP19_2(t *testing.T) {
	r := locktest.Numbers(198)
	for _, homes := range locktest.Crowds() {
		n := len(homes)
		for _, c := range few(homes) {
			x := runs(t, c)
			for range 1000 {
				e := locktest.Next(x, r.Below(n))
				if e.Kind == event.Call && c.Kind == api.Abort {
					e.Wait = locktest.AnyWait(&r)
				}
				x.does(e)
				if r.Below(8) == 0 {
					x.does(locktest.Tick())
				}
			}
			x.ends(trace.Call, trace.Enq, trace.Grant, trace.Unlock, trace.Return)
		}
	}
}

// Calls that give up, and calls that are refused, in the midst of others.
func TestMachinesWhereManyGiveUpP19_2(t *testing.T) {
	r := locktest.Numbers(199)
	for _, n := range []int{2, 3, 8} {
		for pool := 1; pool <= 3; pool++ {
			x := runs(t, api.Config{Kind: api.Abort, Homes: locktest.Homes(n, 0), Pool: pool})
			for range 3000 {
				e := locktest.Next(x, r.Below(n))
				switch {
				case e.Kind == event.Call:
					e.Wait = r.Below(6)
				case e.Kind == event.End && r.Below(12) > 0:
					e = locktest.Tick()
				}
				x.does(e)
			}
			x.ends(trace.Call, trace.Enq, trace.Grant, trace.Timeout, trace.Unlock, trace.Return, trace.Refuse)
		}
	}
}

// Two threads, the one of whom is some events ahead, and then each order of the
// next ten.
func TestMachinesOfTwoInEachOrderP19_2(t *testing.T) {
	for _, c := range few([]int{4, 5}) {
		for ahead := range 14 {
			for way := range 1 << 10 {
				m, e := machine.New(c)
				if e != api.OK {
					t.Fatalf("New(%v): %d", c, e)
				}
				m.Run(slices.Repeat([]event.Event{locktest.Tick()}, way%3)...)
				for range ahead {
					m.Do(locktest.Next(m, 0))
				}
				for i := range 10 {
					m.Do(locktest.Next(m, way>>i&1))
				}
				l := m.Trace()
				checks(t, 2, l, len(l), true)
				if !orderly(l) {
					t.Fatalf("%v isn't orderly", l)
				}
			}
		}
	}
}
