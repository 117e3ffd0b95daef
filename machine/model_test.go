package machine_test

import (
	"slices"
	"testing"

	"weighlock/api"
	"weighlock/build"
	"weighlock/cohort"
	"weighlock/event"
	"weighlock/locktest"
	"weighlock/machine"
	"weighlock/port"
	"weighlock/trace"
)

// model is what the chapter says, in plain words, over a lock of layer 17 and
// its port.
type model struct {
	lock  cohort.Locker
	port  *port.Port
	clock int
	idle  int
	steps []int
	told  []trace.Entry
}

// do does an event, which is idle if it does nothing.
func (m *model) do(e event.Event) bool {
	done := e.Kind == 2 || 0 <= e.Thread && e.Thread < len(m.steps)
	if done {
		switch e.Kind {
		case 1:
			done = m.pick(e.Thread)
		case 2:
			done = m.clock < 1<<40
			if done {
				m.clock++
			}
		case 3:
			done = m.lock.Lock(e.Thread, m.deadline(e.Wait)) == 0
			m.enters(done, 1, e.Thread)
		case 4:
			done = m.lock.Unlock(e.Thread) == 0
			m.enters(done, 6, e.Thread)
		default:
			done = false
		}
	}
	if !done {
		m.idle++
	}
	return done
}

// deadline is that of a call with a Wait.
func (m *model) deadline(wait int) int {
	switch {
	case wait < 0:
		return -1
	case wait > 1<<30:
		return m.clock + 1<<30
	}
	return m.clock + wait
}

// pick is a step of a thread that is Locking or Unlocking.
func (m *model) pick(t int) bool {
	if s := m.lock.State(t); s == 0 || s == 2 {
		return false
	}
	m.steps[t]++
	did := m.lock.Step(t, t, m.clock)
	m.enters(did.Enq, 2, t)
	m.enters(did.Arrive, 3, t)
	m.enters(did.Event == 1 && !did.Lead, 4, t)
	if did.Event == 1 && did.Lead {
		m.told = append(m.told, trace.Entry{Kind: 4, Thread: t, Now: m.clock, Lead: true})
	}
	m.enters(did.Event == 2, 5, t)
	m.enters(did.Event == 3, 7, t)
	m.enters(did.Event == 6, 8, t)
	return true
}

// enters enters an entry, if it has to be.
func (m *model) enters(has bool, kind, t int) {
	if has {
		m.told = append(m.told, trace.Entry{Kind: kind, Thread: t, Now: m.clock})
	}
}

// pair is a machine, and its model.
type pair struct {
	*machine.Machine
	t     *testing.T
	model *model
}

// starts is a machine of a configuration, at first.
func starts(t *testing.T, c api.Config) *pair {
	t.Helper()
	m, e := machine.New(c)
	if e != api.OK || m == nil {
		t.Fatalf("New(%v): error %d; no machine: %t", c, e, m == nil)
	}
	l, x, e := build.New(c)
	if e != api.OK {
		t.Fatalf("%v: no lock: %d", c, e)
	}
	p := &pair{Machine: m, t: t, model: &model{lock: l, port: x, steps: make([]int, len(c.Homes))}}
	p.holds()
	return p
}

// does does one event, and asks all behind it.
func (p *pair) does(e event.Event) bool {
	p.t.Helper()
	got, want := p.Do(e), p.model.do(e)
	if got != want {
		p.t.Fatalf("Do(%v) = %t", e, got)
	}
	p.holds()
	return got
}

// runs does events by one Run, and asks all behind it.
func (p *pair) runs(l ...event.Event) {
	p.t.Helper()
	want := 0
	for _, e := range l {
		if p.model.do(e) {
			want++
		}
	}
	if got := p.Run(l...); got != want {
		p.t.Fatalf("Run(%v) = %d, want %d", l, got, want)
	}
	p.holds()
}

// sets sets the clock.
func (p *pair) sets(now int) {
	p.t.Helper()
	p.SetNow(now)
	p.model.clock = now
	p.holds()
}

// holds asks all that a machine tells.
func (p *pair) holds() {
	p.t.Helper()
	m, n := p.model, len(p.model.steps)
	if got := p.Trace(); !slices.Equal(got, m.told) {
		p.t.Fatalf("Trace() = %v, want %v", got, m.told)
	}
	if now, idle, threads := p.Now(), p.Idle(), p.Len(); now != m.clock || idle != m.idle || threads != n {
		p.t.Fatalf("Now() = %d, want %d; Idle() = %d, want %d; Len() = %d, want %d", now, m.clock, idle, m.idle, threads, n)
	}
	if got, want := p.Words(), m.port.Words(); !slices.Equal(got, want) {
		p.t.Fatalf("Words() = %v, want %v", got, want)
	}
	for t, steps := range m.steps {
		want := [4]int{m.lock.State(t), steps, m.port.Accesses(t), m.port.Misses(t)}
		if got := of(p.Machine, t); got != want {
			p.t.Fatalf("State, Steps, Accesses, Misses of %d: %v, want %v", t, got, want)
		}
	}
	for _, t := range []int{-1, n, 64} {
		if got := of(p.Machine, t); got != [4]int{} {
			p.t.Fatalf("State, Steps, Accesses, Misses of %d, who isn't there: %v", t, got)
		}
	}
	p.oneHolds()
}

// of is what a machine tells of a thread.
func of(m *machine.Machine, t int) [4]int {
	return [4]int{m.State(t), m.Steps(t), m.Accesses(t), m.Misses(t)}
}

// oneHolds asks that at most one is Holding, and that who is, and who is Locking,
// is who the trace says.
func (p *pair) oneHolds() {
	p.t.Helper()
	var holding, locking []int
	for t := range p.Len() {
		switch p.State(t) {
		case api.Holding:
			holding = append(holding, t)
		case api.Locking:
			locking = append(locking, t)
		}
	}
	told := p.Trace()
	var want []int
	if t, ok := trace.Holder(told); ok {
		want = append(want, t)
	}
	if !slices.Equal(holding, want) {
		p.t.Fatalf("%v are Holding; the trace says %v", holding, want)
	}
	if want := trace.Waiting(told); !slices.Equal(locking, want) {
		p.t.Fatalf("%v are Locking; the trace says %v", locking, want)
	}
}

// Events, by short names.
var (
	pick    = locktest.Pick
	tick    = locktest.Tick()
	call    = locktest.Call
	callFor = locktest.CallFor
	end     = locktest.End
)

// picks are so many picks of a thread.
func picks(t, n int) []event.Event { return slices.Repeat([]event.Event{pick(t)}, n) }

// until picks a thread till it is in a state; it may take a hundred picks.
func (p *pair) until(t, state int) {
	p.t.Helper()
	for range 100 {
		if p.State(t) == state {
			return
		}
		p.does(pick(t))
	}
	p.t.Fatalf("a hundred picks of %d: it is in the state %d, not %d", t, p.State(t), state)
}

// brings brings an idle thread, in whose way nobody is, to a state.
func (p *pair) brings(t, state int) {
	p.t.Helper()
	if state != api.Idle {
		p.does(call(t))
	}
	if state == api.Holding || state == api.Unlocking {
		p.until(t, api.Holding)
	}
	if state == api.Unlocking {
		p.does(end(t))
	}
	if got := p.State(t); got != state {
		p.t.Fatalf("State(%d) = %d, want %d", t, got, state)
	}
}

// told says what the trace must be, in lines.
func (p *pair) told(want string) {
	p.t.Helper()
	if got, e := trace.Text(p.Trace()); got != want || e != api.OK {
		p.t.Fatalf("the trace is, with the error %d\n%swant\n%s", e, got, want)
	}
}
