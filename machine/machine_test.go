package machine_test

import (
	"fmt"
	"reflect"
	"slices"
	"testing"

	"weighlock/api"
	"weighlock/cohort"
	"weighlock/event"
	"weighlock/locktest"
	"weighlock/machine"
	"weighlock/trace"
)

// cohorts are those of threads with these homes, with each pair of inner locks.
func cohorts(homes []int, budget int) []api.Config {
	var cs []api.Config
	for _, global := range []int{api.Ticket, api.Mcs} {
		for _, local := range []int{api.Ticket, api.Clh, api.Mcs} {
			cs = append(cs, api.Config{Kind: api.Cohort, Homes: homes, Global: global, Local: local, Budget: budget})
		}
	}
	return cs
}

// each are configurations of threads with these homes, at least one of each kind,
// with each pair of inner locks.
func each(homes []int) []api.Config {
	return slices.Concat(locktest.Plain(homes), cohorts(homes, 2))
}

// makes is a machine, without a model.
func makes(t *testing.T, c api.Config) *machine.Machine {
	t.Helper()
	m, e := machine.New(c)
	if e != api.OK {
		t.Fatalf("New(%v): %d", c, e)
	}
	return m
}

func TestExampleP18_1(t *testing.T) {
	p := starts(t, api.Config{Kind: api.Ticket, Homes: []int{0}})
	p.runs(call(0), pick(0), pick(0))
	p.told("call 0 0\nenq 0 0\ngrant 0 0\n")
	if got := p.Words(); !slices.Equal(got, []uint32{1, 0}) || of(p.Machine, 0) != [4]int{api.Holding, 2, 2, 2} || p.Idle() != 0 {
		t.Errorf("words %v, thread 0: %v, idle %d", got, of(p.Machine, 0), p.Idle())
	}
}

func TestAtFirstP18_1(t *testing.T) {
	for _, homes := range locktest.Crowds() {
		for _, c := range locktest.Many(homes) {
			m := makes(t, c)
			if m.Len() != len(homes) || m.Now() != 0 || m.Idle() != 0 || len(m.Trace()) != 0 {
				t.Fatalf("%v: %d threads, clock %d, idle %d, trace %v", c, m.Len(), m.Now(), m.Idle(), m.Trace())
			}
			for i := -1; i <= len(homes); i++ {
				if got := of(m, i); got != [4]int{} {
					t.Fatalf("%v: State, Steps, Accesses, Misses of %d: %v", c, i, got)
				}
			}
			starts(t, c)
		}
	}
}

// Who is alone goes the way of its kind's chapter; the clock goes on behind each
// event, so that an entry's tick is the number of its event.
func TestWayOfOneAloneP18_1(t *testing.T) {
	want := []string{
		"call 1 0\nenq 1 1\ngrant 1 2\nunlock 1 3\nreturn 1 4\n",
		"call 1 0\nenq 1 1\ngrant 1 3\nunlock 1 4\nreturn 1 5\n",
		"call 1 0\nenq 1 2\ngrant 1 3\nunlock 1 4\nreturn 1 5\n",
		"call 1 0\nenq 1 2\ngrant 1 2\nunlock 1 3\nreturn 1 5\n",
		"call 1 0\nenq 1 5\ngrant 1 5\nunlock 1 6\nreturn 1 9\n",
		"call 1 0\nenq 1 2\narrive 1 4\ngrant 1 7 lead\nunlock 1 8\nreturn 1 10\n",
		"call 1 0\nenq 1 2\narrive 1 6\ngrant 1 7 lead\nunlock 1 8\nreturn 1 14\n",
		// Ticket over Ticket, Clh and Mcs; Mcs over these.
		"call 1 0\nenq 1 1\narrive 1 4\ngrant 1 6 lead\nunlock 1 7\nreturn 1 12\n",
		"call 1 0\nenq 1 2\narrive 1 5\ngrant 1 7 lead\nunlock 1 8\nreturn 1 13\n",
		"call 1 0\nenq 1 2\narrive 1 4\ngrant 1 6 lead\nunlock 1 7\nreturn 1 13\n",
		"call 1 0\nenq 1 1\narrive 1 5\ngrant 1 6 lead\nunlock 1 7\nreturn 1 13\n",
		"call 1 0\nenq 1 2\narrive 1 6\ngrant 1 7 lead\nunlock 1 8\nreturn 1 14\n",
		"call 1 0\nenq 1 2\narrive 1 5\ngrant 1 6 lead\nunlock 1 7\nreturn 1 14\n",
	}
	for i, c := range each([]int{1, 2}) {
		p := starts(t, c)
		for trace.Count(p.Trace(), trace.Return) == 0 && p.Now() < 20 {
			p.does(locktest.Next(p.Machine, 1))
			p.does(tick)
		}
		p.told(want[i])
		// All its events but the Call and the End were steps, with an access each.
		steps := p.Now() - 2
		if got := of(p.Machine, 1); got[1] != steps || got[2] != steps || p.Idle() != 0 {
			t.Errorf("%v: State, Steps, Accesses, Misses %v, want %d steps; idle %d", c, got, steps, p.Idle())
		}
	}
}

// As chapters say it of a passage with clh, and of a call of mcs over mcs.
func TestCountsP18_1(t *testing.T) {
	p := starts(t, api.Config{Kind: api.Clh, Homes: []int{3}})
	p.runs(call(0), pick(0), pick(0), pick(0), end(0), pick(0))
	if got := of(p.Machine, 0); got != [4]int{api.Idle, 4, 4, 3} {
		t.Errorf("clh: State, Steps, Accesses, Misses %v", got)
	}
	p = starts(t, cohorts([]int{0}, 1)[5])
	p.runs(append(picks(0, 6), call(0))...)
	p.runs(picks(0, 6)...)
	if got := of(p.Machine, 0); got != [4]int{api.Holding, 6, 6, 5} || p.Idle() != 6 {
		t.Errorf("mcs over mcs: State, Steps, Accesses, Misses %v; idle %d", got, p.Idle())
	}
}

// both are events of two threads who are picked by turns, where 0 calls at the
// tick 0, 1 at the tick 1, 0 unlocks at the tick 2, and 1 at the tick 3.
func both() []event.Event {
	byTurns := slices.Repeat([]event.Event{pick(0), pick(1)}, 20)
	return slices.Concat([]event.Event{call(0), tick, call(1)}, byTurns, []event.Event{tick, end(0)}, byTurns, []event.Event{tick, end(1)}, byTurns)
}

// Two meet, on one node and on two.
func TestTwoMeetP18_1(t *testing.T) {
	const (
		behind   = "call 0 0\ncall 1 1\nenq 0 1\nenq 1 1\ngrant 0 1\nunlock 0 2\nreturn 0 2\ngrant 1 2\nunlock 1 3\nreturn 1 3\n"
		atOnce   = "call 0 0\ncall 1 1\nenq 0 1\ngrant 0 1\nenq 1 1\nunlock 0 2\nreturn 0 2\ngrant 1 2\nunlock 1 3\nreturn 1 3\n"
		earlier  = "call 0 0\ncall 1 1\nenq 0 1\ngrant 0 1\nenq 1 1\nunlock 0 2\ngrant 1 2\nreturn 0 2\nunlock 1 3\nreturn 1 3\n"
		oneLeads = "call 0 0\ncall 1 1\nenq 0 1\nenq 1 1\narrive 0 1\ngrant 0 1 lead\n" +
			"unlock 0 2\nreturn 0 2\ngrant 1 2\nunlock 1 3\nreturn 1 3\n"
		bothLead = "call 0 0\ncall 1 1\nenq 0 1\nenq 1 1\narrive 0 1\narrive 1 1\ngrant 0 1 lead\n" +
			"unlock 0 2\nreturn 0 2\ngrant 1 2 lead\nunlock 1 3\nreturn 1 3\n"
	)
	// Of each kind from Ticket on.
	want := map[int][]string{
		6: {behind, behind, behind, atOnce, earlier, oneLeads, oneLeads},
		7: {behind, behind, behind, atOnce, earlier, bothLead, bothLead},
	}
	for _, other := range []int{6, 7} {
		for i, c := range locktest.Plain([]int{6, other}) {
			p := starts(t, c)
			for _, e := range both() {
				p.does(e)
			}
			p.told(want[other][i])
		}
	}
}

// What a step tells is entered in its order, whatever it is: a machine goes by
// what its lock tells. A step is its context's own, by itself, at the clock's
// tick.
func TestWhatAPickEntersP18_1(t *testing.T) {
	kinds := map[int]int{api.Granted: trace.Grant, api.TimedOut: trace.Timeout, api.Released: trace.Return, api.Refused: trace.Refuse}
	for what := range 7 {
		for bits := range 8 {
			did := api.Did{Event: what, Enq: bits&1 > 0, Arrive: bits&2 > 0, Lead: bits&4 > 0}
			var want []trace.Entry
			if did.Enq {
				want = append(want, trace.Entry{Kind: trace.Enq, Thread: 2, Now: 3})
			}
			if did.Arrive {
				want = append(want, trace.Entry{Kind: trace.Arrive, Thread: 2, Now: 3})
			}
			if kind, ends := kinds[what]; ends {
				want = append(want, trace.Entry{Kind: kind, Thread: 2, Now: 3, Lead: did.Lead && what == api.Granted})
			}
			m := makes(t, api.Config{Kind: api.Clh, Homes: []int{0, 0, 0, 0}})
			m.Run(tick, call(2), tick, tick)
			l := &telling{did: did}
			m.Wrap(l.instead)
			if !m.Do(pick(2)) || !slices.Equal(m.Trace()[1:], want) {
				t.Errorf("a step tells %v: the trace is %v, want %v", did, m.Trace()[1:], want)
			}
			if l.step != ([3]int{2, 2, 3}) || m.Steps(2) != 1 || m.Idle() != 0 {
				t.Errorf("the step was %v; %d steps, idle %d", l.step, m.Steps(2), m.Idle())
			}
		}
	}
}

// telling is another lock's contexts, with steps that do nothing and tell what
// is said; it keeps with what it was called last.
type telling struct {
	cohort.Locker
	did      api.Did
	step     [3]int
	deadline int
}

// instead is it in the place of that lock.
func (l *telling) instead(other cohort.Locker) cohort.Locker {
	l.Locker = other
	return l
}

func (l *telling) Step(t, as, now int) api.Did {
	l.step = [3]int{t, as, now}
	return l.did
}

func (l *telling) Lock(t, deadline int) api.Errno {
	l.deadline = deadline
	return l.Locker.Lock(t, deadline)
}

func TestAnyEventsP18_1(t *testing.T) {
	r := locktest.Numbers(18)
	for _, homes := range locktest.Crowds() {
		for _, c := range locktest.Many(homes) {
			p := starts(t, c)
			for range 100 {
				p.does(locktest.AnyEvent(&r, len(homes)))
			}
		}
	}
}

// Long ways, in which much comes to its end: threads who do what comes next,
// beside any events.
func TestLongWaysP18_1(t *testing.T) {
	r := locktest.Numbers(181)
	for _, homes := range append(locktest.Crowds(), locktest.Within(5, 0, []int{2, 5})) {
		n := len(homes)
		for _, c := range each(homes) {
			p := starts(t, c)
			for range 1200 {
				e := locktest.Next(p.Machine, r.Below(n))
				switch {
				case e.Kind == event.Call && c.Kind == api.Abort:
					e.Wait = locktest.AnyWait(&r)
				case r.Below(10) == 0:
					e = locktest.AnyEvent(&r, n)
				}
				p.does(e)
			}
			if got := trace.Count(p.Trace(), trace.Grant); got < 2 {
				t.Fatalf("%v: %d grants", c, got)
			}
		}
	}
}

// anyEvents are so many.
func anyEvents(r *locktest.Numbers, n, many int) []event.Event {
	var l []event.Event
	for range many {
		l = append(l, locktest.AnyEvent(r, n))
	}
	return l
}

// Run is Do of each event, in any pieces, also in none; and it is nothing else.
func TestRunP18_1(t *testing.T) {
	r := locktest.Numbers(182)
	for _, c := range each([]int{1, 4, 4}) {
		for range 20 {
			p, whole := starts(t, c), makes(t, c)
			l := anyEvents(&r, 3, 200)
			was := slices.Clone(l)
			for rest := l; len(rest) > 0; {
				size := min(r.Below(12), len(rest))
				p.runs(rest[:size]...)
				rest = rest[size:]
			}
			if !slices.Equal(l, was) {
				t.Fatalf("events that were handed in are %v now, were %v", l, was)
			}
			if got := whole.Run(l...); got != len(l)-p.Idle() {
				t.Fatalf("Run told %d of %d, %d of them idle", got, len(l), p.Idle())
			}
			same(t, whole, p.Machine)
		}
	}
}

// No events do nothing.
func TestRunOfNoneP18_1(t *testing.T) {
	for _, c := range each([]int{0, 0}) {
		p := starts(t, c)
		p.brings(1, api.Holding)
		for _, none := range [][]event.Event{nil, {}} {
			p.runs(none...)
		}
		if got := p.Run(); got != 0 {
			t.Errorf("Run() = %d", got)
		}
		p.holds()
	}
}

// No number of events is too many.
func TestManyEventsP18_1(t *testing.T) {
	const passages = 30000
	for _, c := range locktest.Plain([]int{5}) {
		m := makes(t, c)
		for range passages {
			m.Run(call(0), tick)
			m.Run(picks(0, 8)...)
			m.Do(end(0))
			m.Run(picks(0, 6)...)
		}
		if got := trace.Count(m.Trace(), trace.Return); got != passages || m.Now() != passages || m.Steps(0)+m.Idle() != 14*passages {
			t.Errorf("%v: %d returns, clock %d, %d steps, idle %d", c, got, m.Now(), m.Steps(0), m.Idle())
		}
	}
}

// all is all that a machine tells.
type all struct {
	Trace     []trace.Entry
	Now, Idle int
	Threads   [][4]int
	Words     []uint32
}

func tells(m *machine.Machine) all {
	a := all{Trace: m.Trace(), Now: m.Now(), Idle: m.Idle(), Words: m.Words()}
	for t := range m.Len() {
		a.Threads = append(a.Threads, of(m, t))
	}
	return a
}

// same asks that two machines tell the same.
func same(t *testing.T, got, want *machine.Machine) {
	t.Helper()
	if a, b := tells(got), tells(want); !reflect.DeepEqual(a, b) {
		t.Fatalf("a machine tells %v, another one %v", a, b)
	}
}

// idles asks that events are idle: each is counted, and changes nothing.
func (p *pair) idles(l ...event.Event) {
	p.t.Helper()
	for _, e := range l {
		want := tells(p.Machine)
		want.Idle++
		if p.does(e) {
			p.t.Fatalf("%v isn't idle", e)
		}
		if got := tells(p.Machine); !reflect.DeepEqual(got, want) {
			p.t.Fatalf("behind %v, which is idle, a machine tells %v, want %v", e, got, want)
		}
	}
}

var states = []int{api.Idle, api.Locking, api.Holding, api.Unlocking}

// inEachState does this with a machine of each kind in which the last of some
// threads is in each state, and the clock has gone on.
func inEachState(t *testing.T, do func(p *pair, thread, state int)) {
	t.Helper()
	for _, n := range []int{1, 2, 64} {
		for _, c := range each(locktest.Homes(n, 3)) {
			for _, state := range states {
				p := starts(t, c)
				p.runs(tick, tick)
				p.brings(n-1, state)
				do(p, n-1, state)
			}
		}
	}
}

// A Pick of a thread that is Idle or Holding, a Call of one that isn't Idle, and
// an End of one that isn't Holding are idle, whatever their Wait is.
func TestIdleByStateP18_1(t *testing.T) {
	inEachState(t, func(p *pair, thread, state int) {
		for _, wait := range locktest.Waits() {
			e := event.Event{Thread: thread, Wait: wait}
			if e.Kind = event.Pick; state == api.Idle || state == api.Holding {
				p.idles(e)
			}
			if e.Kind = event.Call; state != api.Idle {
				p.idles(e)
			}
			if e.Kind = event.End; state != api.Holding {
				p.idles(e)
			}
		}
	})
}

// Also behind some of its steps a call for the lock is under way, and one to
// unlock.
func TestIdleInTheMidstOfCallsP18_1(t *testing.T) {
	for _, c := range each([]int{2, 2}) {
		p := starts(t, c)
		for i := range 200 {
			thread := i % 2
			switch p.State(thread) {
			case api.Locking, api.Unlocking:
				p.idles(call(thread), end(thread))
			case api.Holding:
				p.idles(call(thread), pick(thread))
			default:
				p.idles(end(thread), pick(thread))
			}
			p.does(locktest.Next(p.Machine, thread))
		}
	}
}

// An event of another kind is idle, of whatever thread and with whatever Wait.
func TestNoSuchEventP18_1(t *testing.T) {
	inEachState(t, func(p *pair, thread, state int) {
		for i, kind := range locktest.NoEvents() {
			p.idles(event.Event{Kind: kind, Thread: thread}, event.Event{Kind: kind, Thread: thread, Wait: locktest.Waits()[i%len(locktest.Waits())]}, event.Event{Kind: kind, Thread: -1})
		}
		p.idles(event.Event{})
	})
}

// An event of a thread that there isn't is idle, but for a Tick.
func TestNoSuchThreadP18_1(t *testing.T) {
	inEachState(t, func(p *pair, thread, state int) {
		for _, none := range locktest.NoContexts(p.Len()) {
			p.idles(pick(none), call(none), callFor(none, 0), callFor(none, 7), end(none), event.Event{Thread: none})
			if got := of(p.Machine, none); got != [4]int{} {
				p.t.Fatalf("State, Steps, Accesses, Misses of %d: %v", none, got)
			}
			if now := p.Now(); !p.does(event.Event{Kind: event.Tick, Thread: none}) || p.Now() != now+1 {
				p.t.Fatalf("a Tick of the thread %d: clock %d, was %d", none, p.Now(), now)
			}
		}
	})
}

// Of a Tick the Thread and the Wait play no part: the clock goes on by one, and
// nothing else is changed.
func TestTickP18_1(t *testing.T) {
	inEachState(t, func(p *pair, thread, state int) {
		for _, any := range []int{0, thread, -1, 64} {
			for _, wait := range locktest.Waits() {
				want := tells(p.Machine)
				want.Now++
				if !p.does(event.Event{Kind: event.Tick, Thread: any, Wait: wait}) {
					p.t.Fatalf("a Tick of the thread %d with the Wait %d is idle", any, wait)
				}
				if got := tells(p.Machine); !reflect.DeepEqual(got, want) {
					p.t.Fatalf("behind a Tick a machine tells %v, want %v", got, want)
				}
			}
		}
	})
}

// A Pick and an End have no Wait: none that is there plays a part.
func TestWaitOfOthersP18_1(t *testing.T) {
	for _, c := range each([]int{1, 0}) {
		for _, wait := range locktest.Waits() {
			p, own := starts(t, c), makes(t, c)
			for range 40 {
				e := locktest.Next(own, 1)
				own.Do(e)
				if e.Kind != event.Call {
					e.Wait = wait
				}
				p.does(e)
			}
			same(t, p.Machine, own)
		}
	}
}

// Where the lock has no deadlines, a Call is for ever, or idle.
func TestNoDeadlinesP18_1(t *testing.T) {
	for _, c := range each([]int{4, 2}) {
		for _, wait := range locktest.Waits() {
			p := starts(t, c)
			p.does(tick)
			if c.Kind != api.Abort && wait >= 0 {
				p.idles(callFor(1, wait))
			} else if !p.does(callFor(1, wait)) || p.State(1) != api.Locking {
				t.Errorf("%v: a Call with the Wait %d is idle", c, wait)
			}
		}
	}
}

// timed is a machine with deadlines, of some threads with so many nodes each.
func timed(t *testing.T, threads, pool int) *pair {
	t.Helper()
	return starts(t, api.Config{Kind: api.Abort, Homes: make([]int, threads), Pool: pool})
}

// The deadline is the clock and the Wait, of which no more than 2^30 counts; a
// Wait below 0 is for ever.
func TestDeadlineP18_1(t *testing.T) {
	for _, now := range []int{0, 1, 9, 1 << 30, 1<<40 - 1, 1 << 40} {
		for _, wait := range locktest.Waits() {
			m, l := makes(t, api.Config{Kind: api.Abort, Homes: []int{0}, Pool: 1}), &telling{}
			m.SetNow(now)
			m.Wrap(l.instead)
			want := -1
			if wait >= 0 {
				want = now + min(wait, 1<<30)
			}
			if !m.Do(callFor(0, wait)) || l.deadline != want {
				t.Errorf("at the tick %d, a Call with the Wait %d has the deadline %d, want %d", now, wait, l.deadline, want)
			}
		}
	}
}

// Who waits at a deadline gives up then, and not ahead of it: till then it looks,
// step by step, whether it has the lock.
func TestGivesUpAtItsDeadlineP18_1(t *testing.T) {
	for _, now := range []int{0, 5} {
		for _, wait := range []int{0, 1, 2, 7} {
			p := timed(t, 2, 1)
			p.brings(0, api.Holding)
			p.runs(slices.Repeat([]event.Event{tick}, now)...)
			p.does(callFor(1, wait))
			for range wait {
				p.runs(picks(1, 9)...)
				p.does(tick)
			}
			if got := p.State(1); got != api.Locking || p.Now() != now+wait {
				t.Fatalf("Wait %d: state %d at the tick %d", wait, got, p.Now())
			}
			p.until(1, api.Idle)
			p.told("call 0 0\nenq 0 0\ngrant 0 0\n" + fmt.Sprintf("call 1 %d\nenq 1 %d\ntimeout 1 %d\n", now, now, now+wait))
			p.idles(pick(1), end(1))
		}
	}
}

// Who finds nobody is granted the lock, also with a Wait of 0.
func TestGrantedAtOnceP18_1(t *testing.T) {
	p := timed(t, 1, 1)
	p.does(callFor(0, 0))
	p.runs(tick, tick)
	p.runs(picks(0, 5)...)
	p.told("call 0 0\nenq 0 2\ngrant 0 2\n")
}

// Who is handed the lock ahead of its deadline has it, at whatever tick it sees
// that.
func TestGrantedBehindItsDeadlineP18_1(t *testing.T) {
	p := timed(t, 2, 2)
	p.brings(0, api.Holding)
	p.runs(callFor(1, 2))
	p.runs(picks(1, 7)...)
	p.does(end(0))
	p.until(0, api.Idle)
	p.runs(tick, tick, tick, pick(1))
	p.told("call 0 0\nenq 0 0\ngrant 0 0\ncall 1 0\nenq 1 0\nunlock 0 0\nreturn 0 0\ngrant 1 3\n")
}

// Who gave up as often as it has nodes is refused, till somebody unlocks.
func TestRefusedP18_1(t *testing.T) {
	p := timed(t, 2, 2)
	p.brings(0, api.Holding)
	for range 3 {
		p.does(callFor(1, 1))
		p.does(tick)
		p.until(1, api.Idle)
	}
	p.does(end(0))
	p.until(0, api.Idle)
	p.does(callFor(1, 1))
	p.until(1, api.Holding)
	p.told("call 0 0\nenq 0 0\ngrant 0 0\n" +
		"call 1 0\nenq 1 1\ntimeout 1 1\ncall 1 1\nenq 1 2\ntimeout 1 2\ncall 1 2\nrefuse 1 3\n" +
		"unlock 0 3\nreturn 0 3\ncall 1 3\nenq 1 3\ngrant 1 3\n")
}

// Who waits for ever does so, however late it is.
func TestForEverP18_1(t *testing.T) {
	for _, wait := range locktest.Waits() {
		p := timed(t, 2, 1)
		p.brings(0, api.Holding)
		p.does(callFor(1, wait))
		for _, now := range []int{1<<30 - 1, 1 << 30, 1<<40 - 1, 1 << 40} {
			p.sets(now)
			p.runs(picks(1, 20)...)
			if late := wait >= 0 && now >= min(wait, 1<<30); (p.State(1) == api.Idle) != late {
				t.Fatalf("Wait %d, at the tick %d: state %d", wait, now, p.State(1))
			}
		}
	}
}

// The clock goes on to 2^40, and no further: a Tick is idle then, and all else is
// what it was.
func TestLastTickP18_1(t *testing.T) {
	for _, c := range each([]int{3, 3}) {
		p := starts(t, c)
		p.sets(1<<40 - 2)
		p.runs(call(0), tick)
		p.until(0, api.Holding)
		p.runs(tick, end(0))
		if p.Idle() != 0 || p.Now() != 1<<40 {
			t.Fatalf("%v: clock %d, idle %d", c, p.Now(), p.Idle())
		}
		p.idles(tick, tick, event.Event{Kind: event.Tick, Thread: -1, Wait: 3})
		p.until(0, api.Idle)
		p.does(call(1))
		p.idles(tick)
		p.until(1, api.Holding)
		if got := p.Trace()[len(p.Trace())-1].Now; got != 1<<40 {
			t.Errorf("%v: the last entry is at the tick %d", c, got)
		}
	}
}

// At the last tick, too, a call may wait.
func TestCallAtTheLastTickP18_1(t *testing.T) {
	p := timed(t, 2, 2)
	p.brings(0, api.Holding)
	p.sets(1 << 40)
	p.does(callFor(1, 1))
	p.runs(picks(1, 50)...)
	p.idles(tick)
	if got := p.State(1); got != api.Locking {
		t.Fatalf("state %d ahead of its deadline", got)
	}
	p.does(end(0))
	p.until(0, api.Idle)
	p.until(1, api.Holding)
	p.does(callFor(0, 0))
	p.until(0, api.Idle)
	if got, want := p.Trace()[len(p.Trace())-1], (trace.Entry{Kind: trace.Timeout, Now: 1 << 40}); got != want {
		t.Errorf("the last entry is %v, want %v", got, want)
	}
}

// All numbers of threads, who pass one by one, and then together.
func TestHowManyThreadsP18_1(t *testing.T) {
	for n := 1; n <= api.MaxThreads; n++ {
		for _, c := range locktest.Plain(locktest.Homes(n, n)) {
			p := starts(t, c)
			for _, thread := range []int{0, n / 2, n - 1} {
				p.brings(thread, api.Unlocking)
				p.until(thread, api.Idle)
			}
		}
	}
	for _, n := range []int{1, 2, 64} {
		for _, c := range each(locktest.Homes(n, n)) {
			m := makes(t, c)
			for i := range 64 * n * n {
				m.Do(locktest.Next(m, i%n))
			}
			if got := trace.Count(m.Trace(), trace.Grant); got < 2*n {
				t.Errorf("%v: %d grants by turns", c, got)
			}
		}
	}
}

// What a kind doesn't look at may be anything: it changes nothing.
func TestWhatAKindDoesNotLookAtP18_1(t *testing.T) {
	r := locktest.Numbers(183)
	for _, v := range locktest.Far() {
		for _, c := range each([]int{4, 0, 4}) {
			m, other := makes(t, locktest.Besides(c, v)), makes(t, c)
			l := anyEvents(&r, 3, 300)
			m.Run(l...)
			other.Run(l...)
			same(t, m, other)
		}
	}
}

// Homes that are handed in aren't written into, and aren't kept.
func TestHomesStayTheAskersP18_1(t *testing.T) {
	r := locktest.Numbers(184)
	for i, c := range each([]int{7, 1, 5}) {
		homes := []int{2, 7, 1, 5, 0, 3}
		m, other := makes(t, each(homes[1:4])[i]), makes(t, c)
		if !slices.Equal(homes, []int{2, 7, 1, 5, 0, 3}) {
			t.Fatalf("%v: homes that were handed in are %v now", c, homes)
		}
		for _, v := range []int{-1, 0, 1, 8} {
			for h := range homes {
				homes[h] = v
			}
			l := anyEvents(&r, 3, 300)
			m.Run(l...)
			other.Run(l...)
			same(t, m, other)
			if !slices.Equal(homes, slices.Repeat([]int{v}, 6)) {
				t.Fatalf("%v: homes that were handed in are %v now", c, homes)
			}
		}
	}
}

// A trace and words that were told are the asker's own: who changes them changes
// nothing, and they stay what they were.
func TestToldIsTheAskersP18_1(t *testing.T) {
	for _, c := range each([]int{0, 3}) {
		p := starts(t, c)
		p.brings(0, api.Holding)
		told, words := p.Trace(), p.Words()
		wasTold, wasWords := slices.Clone(told), slices.Clone(words)
		p.runs(tick, end(0), call(1))
		p.until(0, api.Idle)
		p.until(1, api.Holding)
		if !slices.Equal(told, wasTold) || !slices.Equal(words, wasWords) {
			t.Fatalf("%v: told were %v, %v; they are %v, %v", c, wasTold, wasWords, told, words)
		}
		told, words = p.Trace(), p.Words()
		_, _ = append(told[:1], trace.Entry{Kind: 99}), append(words[:0], 77)
		for i := range told {
			told[i] = trace.Entry{Kind: trace.Refuse, Thread: 63, Now: 5, Lead: true}
		}
		for i := range words {
			words[i]++
		}
		p.holds()
		told = append(p.Trace(), trace.Entry{})
		p.does(end(1))
		p.until(1, api.Idle)
		if told[len(told)-1] != (trace.Entry{}) {
			t.Fatalf("%v: behind what was told stands %v", c, told[len(told)-1])
		}
	}
}

// Two machines of one configuration are two, and go the same way.
func TestTwoMachinesP18_1(t *testing.T) {
	r := locktest.Numbers(185)
	for _, c := range each([]int{3, 3, 6}) {
		a, b := starts(t, c), starts(t, c)
		for range 300 {
			if r.Below(2) == 0 {
				a.does(locktest.AnyEvent(&r, 3))
			} else {
				b.does(locktest.AnyEvent(&r, 3))
			}
			a.holds()
			b.holds()
		}
		l := anyEvents(&r, 3, 300)
		x, y := makes(t, c), makes(t, c)
		x.Run(l...)
		y.Run(l...)
		same(t, x, y)
	}
}

// refuses asks that there is no machine of a configuration.
func refuses(t *testing.T, c api.Config, want api.Errno) {
	t.Helper()
	if m, e := machine.New(c); m != nil || e != want {
		t.Errorf("New(%v): error %d, want %d; no machine: %t", c, e, want, m == nil)
	}
}

func TestWrongConfigurationsP18_1(t *testing.T) {
	refuses(t, api.Config{}, api.ErrConfig)
	for _, kind := range locktest.NoKinds() {
		for _, homes := range append(locktest.NoHomes(), locktest.Crowds()...) {
			refuses(t, api.Config{Kind: kind, Homes: homes, Slots: 64, Pool: 1, Budget: 1, Global: api.Mcs, Local: api.Mcs}, api.ErrConfig)
		}
	}
	for _, homes := range locktest.NoHomes() {
		for _, c := range each(homes) {
			refuses(t, c, api.ErrArg)
			refuses(t, api.Config{Kind: c.Kind, Homes: homes}, api.ErrArg)
		}
	}
	for _, homes := range locktest.Crowds() {
		for _, c := range locktest.WrongConfigs(homes) {
			refuses(t, c, api.ErrConfig)
		}
	}
}

// Who doesn't hold the lock unlocks nothing: of no word, of no access and of no
// miss, in whatever state it is, and whoever holds it.
func TestUnlockOfOneWhoDoesNotHoldP18_2(t *testing.T) {
	inEachState(t, func(p *pair, thread, state int) {
		for other := range p.Len() {
			if other != thread || state != api.Holding {
				p.idles(end(other), end(other))
			}
		}
		if state == api.Holding && !p.does(end(thread)) {
			p.t.Fatalf("the End of the holder %d is idle", thread)
		}
	})
}

// So it is while the lock goes from hand to hand.
func TestUnlockOfAnyP18_2(t *testing.T) {
	r := locktest.Numbers(186)
	for _, homes := range locktest.Crowds() {
		n := len(homes)
		for _, c := range each(homes) {
			p := starts(t, c)
			for range 300 {
				thread := r.Below(n)
				if p.State(thread) != api.Holding {
					p.idles(end(thread))
				}
				p.does(locktest.Next(p.Machine, thread))
			}
		}
	}
}

// alone asks that at most one is Holding.
func alone(t *testing.T, m *machine.Machine) {
	t.Helper()
	holder := -1
	for thread := range m.Len() {
		if m.State(thread) != api.Holding {
			continue
		}
		if holder >= 0 {
			t.Fatalf("%d and %d are Holding: %v", holder, thread, m.Trace())
		}
		holder = thread
	}
}

// Two threads, on one node and on two, the one of whom is some events ahead, and
// then each order of the next ten.
func TestTwoInEachOrderP18_3(t *testing.T) {
	for _, other := range []int{4, 5} {
		for _, c := range each([]int{4, other}) {
			for ahead := range 30 {
				for way := range 1 << 10 {
					m := makes(t, c)
					for range ahead {
						m.Do(locktest.Next(m, 0))
					}
					for i := range 10 {
						m.Do(locktest.Next(m, way>>i&1))
						alone(t, m)
					}
				}
			}
		}
	}
}

// Any number of threads, in any order, who pass without rest; all do.
func TestAtMostOneHoldsP18_3(t *testing.T) {
	r := locktest.Numbers(187)
	for _, homes := range append(locktest.Crowds(), []int{4, 4}, []int{4, 5}, locktest.Within(8, 0, []int{1, 6})) {
		n := len(homes)
		for _, c := range slices.Concat(each(homes), cohorts(homes, 1), cohorts(homes, 5)) {
			m := makes(t, c)
			var granted [64]bool
			for i := range 6000 * min(n, 8) {
				thread := i % n
				if i < 5000 {
					thread = r.Below(n)
				}
				m.Do(locktest.Next(m, thread))
				alone(t, m)
				granted[thread] = granted[thread] || m.State(thread) == api.Holding
			}
			if slices.Contains(granted[:n], false) {
				t.Fatalf("%v: who was granted the lock: %v", c, granted[:n])
			}
		}
	}
}
