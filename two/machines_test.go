package two_test

import (
	"slices"
	"testing"

	"weighlock/api"
	"weighlock/event"
	"weighlock/locktest"
	"weighlock/machine"
	"weighlock/trace"
	"weighlock/two"
)

// twoLevels are configurations of threads with these homes of the kinds of two
// levels, the cohorts with each kind of lock inside and with several budgets.
func twoLevels(homes []int) []api.Config {
	return slices.DeleteFunc(locktest.Many(homes), func(c api.Config) bool { return c.Kind < api.Hier })
}

// few are some of them: with the budgets 1 to 3 alone.
func few(homes []int) []api.Config {
	cs := []api.Config{{Kind: api.Hier, Homes: homes}}
	for i, global := range []int{api.Ticket, api.Mcs} {
		for j, local := range []int{api.Ticket, api.Clh, api.Mcs} {
			cs = append(cs, api.Config{Kind: api.Cohort, Homes: homes, Global: global, Local: local, Budget: 1 + (i+j)%3})
		}
	}
	return cs
}

// run is a machine, and the automaton that takes what it enters.
type run struct {
	*machine.Machine
	pair *pair
}

// runs is a machine of a configuration, at first.
func runs(t *testing.T, c api.Config) *run {
	t.Helper()
	m, e := machine.New(c)
	if e != api.OK {
		t.Fatalf("New(%v): %d", c, e)
	}
	return &run{Machine: m, pair: starts(t, c.Budget, c.Homes...)}
}

// does does an event; all that is entered must fit, and behind it the same one
// must be holding, and the same ones must wait.
func (x *run) does(e event.Event) {
	x.pair.Helper()
	x.Do(e)
	x.pair.fits(x.Trace()[len(x.pair.model.taken):]...)
	x.agrees()
}

// agrees asks that who is Holding in the machine is holding, and that who is
// queued, or arrived, is Locking.
func (x *run) agrees() {
	x.pair.Helper()
	m := x.pair.model
	var holders []int
	for t := range x.Len() {
		if x.State(t) == api.Holding {
			holders = append(holders, t)
		}
	}
	if got := m.with(trace.Grant); !slices.Equal(got, holders) {
		x.pair.Fatalf("behind %v: %v hold, in the machine %v", m.taken, got, holders)
	}
	waiting := x.pair.lock.Row()
	for _, node := range nodes(m.homes) {
		waiting = append(waiting, x.pair.lock.Queue(node)...)
	}
	for _, t := range waiting {
		if x.State(t) != api.Locking {
			x.pair.Fatalf("behind %v: %d waits; in the machine its state is %d", m.taken, t, x.State(t))
		}
	}
}

// ends asks that all that was entered is a trace, and so is each beginning.
func (x *run) ends() {
	x.pair.Helper()
	m, l := x.pair.model, x.Trace()
	isTrace(x.pair.T, m.homes, m.budget, l)
	if !orderly(m.homes, l) {
		x.pair.Fatalf("%v isn't orderly", l)
	}
	budgetsOf(x.pair.T, m.homes, l)
}

// budgetsOf asks of how many entries there is a trace with each budget.
func budgetsOf(t *testing.T, homes []int, l []trace.Entry) {
	t.Helper()
	for budget := range 8 {
		m := newModel(homes, budget)
		n := 0
		for n < len(l) && m.take(l[n]) {
			n++
		}
		checks(t, homes, budget, l, n, n == len(l))
	}
}

// hadAll asks that there were entries of each kind that there may be, and where
// threads may come behind one who leads, that one did.
func (x *run) hadAll() {
	x.pair.Helper()
	m, l := x.pair.model, x.Trace()
	for _, kind := range []int{trace.Call, trace.Enq, trace.Arrive, trace.Grant, trace.Unlock, trace.Return} {
		if trace.Count(l, kind) == 0 {
			x.pair.Fatalf("homes %v: %d entries, none of the kind %d", m.homes, len(l), kind)
		}
	}
	leads := len(slices.DeleteFunc(slices.Clone(l), func(e trace.Entry) bool { return !e.Lead }))
	shared := len(nodes(m.homes)) < len(m.homes) && m.budget != 1
	if leads == 0 || shared != (leads < trace.Count(l, trace.Grant)) {
		x.pair.Fatalf("homes %v, budget %d: of %d Grants %d lead", m.homes, m.budget, trace.Count(l, trace.Grant), leads)
	}
}

// Any events, wrong ones among them.
func TestMachinesAnyEventsP20_1(t *testing.T) {
	r := locktest.Numbers(207)
	for _, homes := range locktest.Crowds() {
		for _, c := range twoLevels(homes) {
			x := runs(t, c)
			for range 800 {
				x.does(locktest.AnyEvent(&r, len(homes)))
			}
			x.ends()
		}
	}
}

// Long ways, in which threads do what comes next.
func TestMachinesLongWaysP20_2(t *testing.T) {
	r := locktest.Numbers(208)
	for _, on := range locktest.Nodes() {
		for _, n := range []int{1, 2, 3, 9} {
			for _, c := range few(locktest.Within(n, 0, on)) {
				x := runs(t, c)
				for range 1500 {
					x.does(locktest.Next(x, r.Below(n)))
					if r.Below(8) == 0 {
						x.does(locktest.Tick())
					}
				}
				x.ends()
				x.hadAll()
			}
		}
	}
}

// As many threads as there may be, some of whom are picked more often than others.
func TestMachinesOfManyP20_2(t *testing.T) {
	r := locktest.Numbers(209)
	for _, on := range locktest.Nodes() {
		for _, c := range few(locktest.Within(64, 0, on)) {
			x := runs(t, c)
			for i := range 3000 {
				t := r.Below(64)
				if i%3 > 0 {
					t = r.Below(8)
				}
				x.does(locktest.Next(x, t))
			}
			x.ends()
			x.hadAll()
		}
	}
}

// Two threads, the one of whom is some events ahead, and then each order of the
// next ten.
func TestMachinesOfTwoInEachOrderP20_2(t *testing.T) {
	for _, homes := range [][]int{{3, 3}, {3, 4}} {
		for _, c := range few(homes) {
			for ahead := range 18 {
				for way := range 1 << 10 {
					m, e := machine.New(c)
					if e != api.OK {
						t.Fatalf("New(%v): %d", c, e)
					}
					m.Run(slices.Repeat([]event.Event{locktest.Tick()}, way%3)...)
					for range ahead {
						m.Do(locktest.Next(m, 0))
					}
					for i := range 10 {
						m.Do(locktest.Next(m, way>>i&1))
					}
					l := m.Trace()
					checks(t, homes, c.Budget, l, len(l), true)
					if !orderly(homes, l) {
						t.Fatalf("%v isn't orderly", l)
					}
				}
			}
		}
	}
}

// A cohort of whose node's threads all call again and again has as many in a row
// as its budget is; with a smaller one that is no trace.
func TestCohortsUseTheirBudgetsP20_1(t *testing.T) {
	for budget := 1; budget <= 6; budget++ {
		for _, global := range []int{api.Ticket, api.Mcs} {
			for _, local := range []int{api.Ticket, api.Clh, api.Mcs} {
				homes := []int{1, 1, 1, 6, 6}
				x := runs(t, api.Config{Kind: api.Cohort, Homes: homes, Global: global, Local: local, Budget: budget})
				for i := range 2000 {
					x.does(locktest.Next(x, i%5))
				}
				l := x.Trace()
				for more := range 3 {
					checks(t, homes, budget+more, l, len(l), true)
				}
				for less := 1; less < budget; less++ {
					if n, ok := two.Check(homes, less, l); ok || l[n].Kind != trace.Grant || l[n].Lead {
						t.Errorf("Check with the budget %d, where it was %d = %d, %t", less, budget, n, ok)
					}
				}
				x.ends()
			}
		}
	}
}

// What a lock enters that is first come, first served is such a trace as far as
// its first Grant, which doesn't lead.
func TestMachinesOfOneLevelP20_1(t *testing.T) {
	homes := []int{2, 2, 2}
	for _, c := range locktest.Plain(homes)[:api.Abort] {
		m, e := machine.New(c)
		if e != api.OK {
			t.Fatalf("New(%v): %d", c, e)
		}
		for i := range 100 {
			m.Do(locktest.Next(m, i%3))
		}
		l := m.Trace()
		first := slices.IndexFunc(l, func(e trace.Entry) bool { return e.Kind == trace.Grant })
		checks(t, homes, 0, l, first, false)
	}
}
