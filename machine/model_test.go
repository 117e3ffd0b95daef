package machine_test

import (
	"math"
	"slices"
	"testing"

	"weighlock/api"
	"weighlock/build"
	"weighlock/cohort"
	"weighlock/event"
	"weighlock/locktest"
	"weighlock/machine"
	"weighlock/port"
	"weighlock/trace"
)

// model is what the chapter says, in plain words, over a lock of layer 17 and
// its port.
type model struct {
	lock  cohort.Locker
	port  *port.Port
	clock int
	idle  int
	steps []int
	told  []trace.Entry
}

// do does an event, which is idle if it does nothing.
func (m *model) do(e event.Event) bool {
	done := e.Kind == 2 || 0 <= e.Thread && e.Thread < len(m.steps)
	if done {
		switch e.Kind {
		case 1:
			done = m.pick(e.Thread)
		case 2:
			done = m.clock < 1<<40
			if done {
				m.clock++
			}
		case 3:
			done = m.lock.Lock(e.Thread, m.deadline(e.Wait)) == 0
			m.enters(done, 1, e.Thread)
		case 4:
			done = m.lock.Unlock(e.Thread) == 0
			m.enters(done, 6, e.Thread)
		default:
			done = false
		}
	}
	if !done {
		m.idle++
	}
	return done
}

// deadline is that of a call with a Wait.
func (m *model) deadline(wait int) int {
	switch {
	case wait < 0:
		return -1
	case wait > 1<<30:
		return m.clock + 1<<30
	}
	return m.clock + wait
}

// pick is a step of a thread that is Locking or Unlocking.
func (m *model) pick(t int) bool {
	if s := m.lock.State(t); s == 0 || s == 2 {
		return false
	}
	m.steps[t]++
	did := m.lock.Step(t, t, m.clock)
	m.enters(did.Enq, 2, t)
	m.enters(did.Arrive, 3, t)
	m.enters(did.Event == 1 && !did.Lead, 4, t)
	if did.Event == 1 && did.Lead {
		m.told = append(m.told, trace.Entry{Kind: 4, Thread: t, Now: m.clock, Lead: true})
	}
	m.enters(did.Event == 2, 5, t)
	m.enters(did.Event == 3, 7, t)
	m.enters(did.Event == 6, 8, t)
	return true
}

// enters enters an entry, if it has to be.
func (m *model) enters(has bool, kind, t int) {
	if has {
		m.told = append(m.told, trace.Entry{Kind: kind, Thread: t, Now: m.clock})
	}
}

// pair is a machine, and its model.
type pair struct {
	*machine.Machine
	t     *testing.T
	model *model
}

// starts is a machine of a configuration, at first.
func starts(t *testing.T, c api.Config) *pair {
	t.Helper()
	m, e := machine.New(c)
	if e != api.OK || m == nil {
		t.Fatalf("New(%v): error %d; no machine: %t", c, e, m == nil)
	}
	l, x, e := build.New(c)
	if e != api.OK {
		t.Fatalf("%v: no lock: %d", c, e)
	}
	p := &pair{Machine: m, t: t, model: &model{lock: l, port: x, steps: make([]int, len(c.Homes))}}
	p.holds()
	return p
}

// does does one event, and asks all behind it.
func (p *pair) does(e event.Event) bool {
	p.t.Helper()
	got, want := p.Do(e), p.model.do(e)
	if got != want {
		p.t.Fatalf("Do(%v) = %t", e, got)
	}
	p.holds()
	return got
}

// runs does events by one Run, and asks all behind it.
func (p *pair) runs(l ...event.Event) {
	p.t.Helper()
	want := 0
	for _, e := range l {
		if p.model.do(e) {
			want++
		}
	}
	if got := p.Run(l...); got != want {
		p.t.Fatalf("Run(%v) = %d, want %d", l, got, want)
	}
	p.holds()
}

// sets sets the clock.
func (p *pair) sets(now int) {
	p.t.Helper()
	p.SetNow(now)
	p.model.clock = now
	p.holds()
}

// holds asks all that a machine tells.
func (p *pair) holds() {
	p.t.Helper()
	m, n := p.model, len(p.model.steps)
	if got := p.Trace(); !slices.Equal(got, m.told) {
		p.t.Fatalf("Trace() = %v, want %v", got, m.told)
	}
	if now, idle, threads := p.Now(), p.Idle(), p.Len(); now != m.clock || idle != m.idle || threads != n {
		p.t.Fatalf("Now() = %d, want %d; Idle() = %d, want %d; Len() = %d, want %d", now, m.clock, idle, m.idle, threads, n)
	}
	if got, want := p.Words(), m.port.Words(); !slices.Equal(got, want) {
		p.t.Fatalf("Words() = %v, want %v", got, want)
	}
	for t, steps := range m.steps {
		want := [4]int{m.lock.State(t), steps, m.port.Accesses(t), m.port.Misses(t)}
		if got := of(p.Machine, t); got != want {
			p.t.Fatalf("State, Steps, Accesses, Misses of %d: %v, want %v", t, got, want)
		}
	}
	for _, t := range []int{-1, n, 64} {
		if got := of(p.Machine, t); got != [4]int{} {
			p.t.Fatalf("State, Steps, Accesses, Misses of %d, who isn't there: %v", t, got)
		}
	}
	p.oneHolds()
}

// of is what a machine tells of a thread.
func of(m *machine.Machine, t int) [4]int {
	return [4]int{m.State(t), m.Steps(t), m.Accesses(t), m.Misses(t)}
}

// oneHolds asks that at most one is Holding, and that who is, and who is Locking,
// is who the trace says.
func (p *pair) oneHolds() {
	p.t.Helper()
	var holding, locking []int
	for t := range p.Len() {
		switch p.State(t) {
		case api.Holding:
			holding = append(holding, t)
		case api.Locking:
			locking = append(locking, t)
		}
	}
	told := p.Trace()
	var want []int
	if t, ok := trace.Holder(told); ok {
		want = append(want, t)
	}
	if !slices.Equal(holding, want) {
		p.t.Fatalf("%v are Holding; the trace says %v", holding, want)
	}
	if want := trace.Waiting(told); !slices.Equal(locking, want) {
		p.t.Fatalf("%v are Locking; the trace says %v", locking, want)
	}
}

// Events.

func pick(t int) event.Event { return event.Event{Kind: event.Pick, Thread: t} }

func call(t int) event.Event { return callFor(t, -1) }

func callFor(t, wait int) event.Event {
	return event.Event{Kind: event.Call, Thread: t, Wait: wait}
}

func end(t int) event.Event { return event.Event{Kind: event.End, Thread: t} }

var tick = event.Event{Kind: event.Tick}

// picks are so many picks of a thread.
func picks(t, n int) []event.Event { return slices.Repeat([]event.Event{pick(t)}, n) }

// next is what a thread does next, in whatever state it is: it calls for the
// lock, for ever, calls to unlock, or is picked.
func next(m *machine.Machine, t int) event.Event {
	switch m.State(t) {
	case api.Idle:
		return call(t)
	case api.Holding:
		return end(t)
	}
	return pick(t)
}

// until picks a thread till it is in a state; it may take a hundred picks.
func (p *pair) until(t, state int) {
	p.t.Helper()
	for range 100 {
		if p.State(t) == state {
			return
		}
		p.does(pick(t))
	}
	p.t.Fatalf("a hundred picks of %d: it is in the state %d, not %d", t, p.State(t), state)
}

// brings brings an idle thread, in whose way nobody is, to a state.
func (p *pair) brings(t, state int) {
	p.t.Helper()
	if state != api.Idle {
		p.does(call(t))
	}
	if state == api.Holding || state == api.Unlocking {
		p.until(t, api.Holding)
	}
	if state == api.Unlocking {
		p.does(end(t))
	}
	if got := p.State(t); got != state {
		p.t.Fatalf("State(%d) = %d, want %d", t, got, state)
	}
}

// told says what the trace must be, in lines.
func (p *pair) told(want string) {
	p.t.Helper()
	if got, e := trace.Text(p.Trace()); got != want || e != api.OK {
		p.t.Fatalf("the trace is, with the error %d\n%swant\n%s", e, got, want)
	}
}

// anyEvent is any event of a thread that there is, now and then a wrong one.
func anyEvent(r *locktest.Numbers, n int) event.Event {
	e := event.Event{Kind: event.Pick, Thread: r.Below(n)}
	switch r.Below(16) {
	case 0, 1, 2:
		e.Kind, e.Wait = event.Call, anyWait(r)
	case 3, 4:
		e.Kind = event.End
	case 5, 6:
		e = tick
	}
	if r.Below(32) == 0 {
		e.Thread = one(r, locktest.NoContexts(n))
	}
	if r.Below(32) == 0 {
		e.Kind = one(r, noEvents())
	}
	if r.Below(32) == 0 {
		e.Wait = one(r, waits())
	}
	return e
}

// anyWait is a Wait: for ever, or some steps long.
func anyWait(r *locktest.Numbers) int {
	if r.Below(3) > 0 {
		return -1
	}
	return r.Below(12)
}

// waits are Waits of which most are near a bound.
func waits() []int {
	return []int{-1, 0, 1, 2, 255, 256, 1<<30 - 1, 1 << 30, 1<<30 + 1, 1 << 31, 1 << 32, 1<<32 + 1, 1<<40 - 1, 1 << 40, math.MaxInt64 - 1, math.MaxInt64,
		-2, -3, -255, -1 << 30, -1 << 31, -1 << 32, 1 - 1<<32, math.MinInt64, math.MinInt64 + 1}
}

// noEvents are numbers of no kind of events; some of them would be one if they
// were cut to fewer bits.
func noEvents() []int {
	return []int{0, 5, 6, 7, 8, 9, 12, -1, -2, -3, -4, 64, 255, 256, 257, 258, 259, 260, 1<<16 + 1, 1 << 32, 1<<32 + 1, 1<<32 + 2, 1<<32 + 3, 1<<32 + 4, 2 - 1<<32, math.MinInt64, math.MinInt64 + 2, math.MaxInt64}
}

// one is one of these.
func one(r *locktest.Numbers, all []int) int { return all[r.Below(len(all))] }
