package seat_test

import (
	"math"
	"testing"

	"weighlock/api"
	"weighlock/seat"
)

// way is that an event ends what is under way, and what is done behind it.
type way struct{ state, event, next int }

// ways are all there are.
var ways = []way{
	{api.Locking, api.Granted, api.Holding},
	{api.Locking, api.TimedOut, api.Idle},
	{api.Locking, api.Refused, api.Idle},
	{api.Unlocking, api.Released, api.Idle},
	{api.Probing, api.Alone, api.Holding},
	{api.Probing, api.Company, api.Holding},
}

// model is what the chapter says, in plain words: a state and a deadline of
// each context, the deadline -1 but where a call for the lock is under way.
type model struct {
	timed, probed     bool
	states, deadlines []int
}

func newModel(contexts int, timed, probed bool) *model {
	m := &model{timed: timed, probed: probed}
	for range contexts {
		m.states = append(m.states, api.Idle)
		m.deadlines = append(m.deadlines, -1)
	}
	return m
}

func (m *model) has(t int) bool { return 0 <= t && t < len(m.states) }

func (m *model) lock(t, deadline int) api.Errno {
	if !m.has(t) {
		return api.ErrArg
	}
	if deadline < -1 {
		return api.ErrArg
	}
	if deadline > -1 && !m.timed {
		return api.ErrArg
	}
	if m.states[t] != api.Idle {
		return api.ErrBusy
	}
	m.states[t], m.deadlines[t] = api.Locking, deadline
	return api.OK
}

// from is what Unlock and Probe have in common.
func (m *model) from(t, next int) api.Errno {
	if !m.has(t) {
		return api.ErrArg
	}
	if m.states[t] == api.Idle {
		return api.ErrNotHeld
	}
	if m.states[t] != api.Holding {
		return api.ErrBusy
	}
	m.states[t] = next
	return api.OK
}

func (m *model) unlock(t int) api.Errno { return m.from(t, api.Unlocking) }

func (m *model) probe(t int) api.Errno {
	if !m.probed {
		return api.ErrArg
	}
	return m.from(t, api.Probing)
}

func (m *model) end(t, event int) bool {
	for _, w := range ways {
		if m.has(t) && m.states[t] == w.state && event == w.event {
			m.states[t], m.deadlines[t] = w.next, -1
			return true
		}
	}
	return false
}

// noContexts are numbers of no context where there are n; some of them would
// be one if they were cut to fewer bits.
func noContexts(n int) []int {
	return []int{-1, -2, -n, -n - 1, -64, n, n + 1, n + 64, 2 * n, math.MinInt64, math.MaxInt64, math.MinInt32, math.MaxInt32, 1 << 32, 1<<32 + n - 1, -1 << 32, 1<<32 - 1, 1 << 16, 1 << 8, 64 << 8}
}

// events are those that there are, and many that are none.
func events() []int {
	list := []int{math.MinInt64, math.MaxInt64, math.MinInt32, math.MaxInt32, 1 << 32, -1 << 32, 255, 256}
	for e := range 24 {
		list = append(list, e, -e, e+1<<8, e+1<<16, e+1<<32, e-1<<32, e+math.MinInt64)
	}
	return list
}

// pair is seats, and the model of them.
type pair struct {
	*testing.T
	seats *seat.Seats
	model *model
}

func newPair(t *testing.T, contexts int, timed, probed bool) *pair {
	t.Helper()
	s, e := seat.New(contexts, timed, probed)
	if s == nil || e != api.OK {
		t.Fatalf("New(%d, %v, %v) = %v, %d, want seats", contexts, timed, probed, s, e)
	}
	p := &pair{t, s, newModel(contexts, timed, probed)}
	p.holds()
	return p
}

// holds asks Len, and State and Deadline of every context.
func (p *pair) holds() {
	p.Helper()
	if got := p.seats.Len(); got != len(p.model.states) {
		p.Fatalf("Len() = %d, want %d", got, len(p.model.states))
	}
	for t := range p.model.states {
		if got, want := p.seats.State(t), p.model.states[t]; got != want {
			p.Fatalf("State(%d) = %d, want %d", t, got, want)
		}
		if got, want := p.seats.Deadline(t), p.model.deadlines[t]; got != want {
			p.Fatalf("Deadline(%d) = %d, want %d", t, got, want)
		}
	}
}

// lock does one Lock, and asks all behind it; so do the others that follow.
func (p *pair) lock(t, deadline int) api.Errno {
	p.Helper()
	got, want := p.seats.Lock(t, deadline), p.model.lock(t, deadline)
	if got != want {
		p.Fatalf("Lock(%d, %d) = %d, want %d", t, deadline, got, want)
	}
	p.holds()
	return got
}

func (p *pair) unlock(t int) api.Errno {
	p.Helper()
	got, want := p.seats.Unlock(t), p.model.unlock(t)
	if got != want {
		p.Fatalf("Unlock(%d) = %d, want %d", t, got, want)
	}
	p.holds()
	return got
}

func (p *pair) probe(t int) api.Errno {
	p.Helper()
	got, want := p.seats.Probe(t), p.model.probe(t)
	if got != want {
		p.Fatalf("Probe(%d) = %d, want %d", t, got, want)
	}
	p.holds()
	return got
}

func (p *pair) end(t, event int) bool {
	p.Helper()
	got, want := p.seats.End(t, event), p.model.end(t, event)
	if got != want {
		p.Fatalf("End(%d, %d) = %v, want %v", t, event, got, want)
	}
	p.holds()
	return got
}

// bring brings an idle context to a state, by the calls that lead there.
func (p *pair) bring(t, state int) {
	p.Helper()
	if state != api.Idle {
		p.lock(t, -1)
	}
	if state == api.Holding || state == api.Unlocking || state == api.Probing {
		p.end(t, api.Granted)
	}
	switch state {
	case api.Unlocking:
		p.unlock(t)
	case api.Probing:
		p.probe(t)
	}
	if got := p.seats.State(t); got != state {
		p.Fatalf("State(%d) = %d, want %d", t, got, state)
	}
}

// is asks what a call told, by what the test names.
func (p *pair) is(got, want api.Errno) {
	p.Helper()
	if got != want {
		p.Fatalf("the call told %d, want %d", got, want)
	}
}

// ends asks that an event ends what is under way, and what is done behind it.
func (p *pair) ends(t, event, next int) {
	p.Helper()
	if !p.end(t, event) {
		p.Fatalf("End(%d, %d) = false, want true", t, event)
	}
	p.does(t, next, -1)
}

// does asks State and Deadline, by numbers that the test names.
func (p *pair) does(t, state, deadline int) {
	p.Helper()
	if s, d := p.seats.State(t), p.seats.Deadline(t); s != state || d != deadline {
		p.Fatalf("State(%d), Deadline(%d) = %d, %d, want %d, %d", t, t, s, d, state, deadline)
	}
}

func TestExamplesP9_1(t *testing.T) {
	p := newPair(t, 2, false, false)
	p.is(p.lock(0, -1), api.OK)
	p.is(p.lock(0, -1), api.ErrBusy)
	p.is(p.unlock(1), api.ErrNotHeld)
}

func TestAllAreIdleAtFirstP9_1(t *testing.T) {
	for n := 1; n <= api.MaxThreads; n++ {
		for _, both := range []bool{false, true} {
			p := newPair(t, n, both, both)
			if got := p.seats.Len(); got != n {
				t.Fatalf("Len() = %d, want %d", got, n)
			}
			for c := range n {
				p.does(c, api.Idle, -1)
			}
		}
	}
}

func TestEachCallInEachStateP9_1(t *testing.T) {
	cases := []struct {
		state               int
		lock, unlock, probe api.Errno
	}{
		{api.Idle, api.OK, api.ErrNotHeld, api.ErrNotHeld},
		{api.Locking, api.ErrBusy, api.ErrBusy, api.ErrBusy},
		{api.Holding, api.ErrBusy, api.OK, api.OK},
		{api.Unlocking, api.ErrBusy, api.ErrBusy, api.ErrBusy},
		{api.Probing, api.ErrBusy, api.ErrBusy, api.ErrBusy},
	}
	for _, c := range cases {
		for _, n := range []int{1, 3, 64} {
			p := newPair(t, n, true, true)
			p.bring(n-1, c.state)
			p.is(p.lock(n-1, 9), c.lock)
			p = newPair(t, n, true, true)
			p.bring(n-1, c.state)
			p.is(p.unlock(n-1), c.unlock)
			p = newPair(t, n, true, true)
			p.bring(n-1, c.state)
			p.is(p.probe(n-1), c.probe)
		}
	}
}

func TestEachEventInEachStateP9_1(t *testing.T) {
	const no = -1 // the event ends nothing
	next := [5][7]int{
		api.Idle:      {no, no, no, no, no, no, no},
		api.Locking:   {no, api.Holding, api.Idle, no, no, no, api.Idle},
		api.Holding:   {no, no, no, no, no, no, no},
		api.Unlocking: {no, no, no, api.Idle, no, no, no},
		api.Probing:   {no, no, no, no, api.Holding, api.Holding, no},
	}
	for state, row := range next {
		for _, event := range events() {
			p := newPair(t, 2, true, true)
			p.bring(1, state)
			if event >= 0 && event < len(row) && row[event] != no {
				p.ends(1, event, row[event])
			} else if p.end(1, event) {
				t.Fatalf("End(1, %d) = true of one that does %d", event, state)
			}
		}
	}
}

func TestNoEventChangesADeadlineP9_1(t *testing.T) {
	p := newPair(t, 1, true, true)
	p.lock(0, 12)
	for _, event := range events() {
		if event == api.Granted || event == api.TimedOut || event == api.Refused {
			continue
		}
		if p.end(0, event) {
			t.Fatalf("End(0, %d) = true of one that is Locking", event)
		}
		p.does(0, api.Locking, 12)
	}
}

func TestAWholeWayP9_1(t *testing.T) {
	for _, timed := range []bool{false, true} {
		p := newPair(t, 1, timed, true)
		for range 3 {
			for _, answer := range []int{api.Alone, api.Company} {
				p.is(p.lock(0, -1), api.OK)
				p.does(0, api.Locking, -1)
				p.ends(0, api.Granted, api.Holding)
				p.is(p.probe(0), api.OK)
				p.does(0, api.Probing, -1)
				p.ends(0, answer, api.Holding)
				p.is(p.probe(0), api.OK)
				p.ends(0, answer, api.Holding)
				p.is(p.unlock(0), api.OK)
				p.does(0, api.Unlocking, -1)
				p.ends(0, api.Released, api.Idle)
				p.is(p.unlock(0), api.ErrNotHeld)
			}
		}
	}
}

func TestACallThatCameToNothingP9_1(t *testing.T) {
	for _, event := range []int{api.TimedOut, api.Refused} {
		for _, timed := range []bool{false, true} {
			p := newPair(t, 2, timed, true)
			p.is(p.lock(1, -1), api.OK)
			p.ends(1, event, api.Idle)
			p.is(p.unlock(1), api.ErrNotHeld)
			p.is(p.probe(1), api.ErrNotHeld)
			p.is(p.lock(1, -1), api.OK)
			p.ends(1, event, api.Idle)
			p.is(p.lock(1, -1), api.OK)
			p.ends(1, api.Granted, api.Holding)
			p.is(p.unlock(1), api.OK)
			p.ends(1, api.Released, api.Idle)
		}
	}
}

func TestDeadlinesP9_1(t *testing.T) {
	deadlines := []int{-1, 0, 1, 2, 5, 100000, math.MaxInt32, math.MaxInt32 + 1, 1<<32 - 1, 1 << 32, 1<<32 + 1, math.MaxInt64 - 1, math.MaxInt64}
	for _, d := range deadlines {
		for _, event := range []int{api.Granted, api.TimedOut, api.Refused} {
			p := newPair(t, 2, true, false)
			p.is(p.lock(0, d), api.OK)
			p.does(0, api.Locking, d)
			p.does(1, api.Idle, -1)
			p.end(0, event)
			if got := p.seats.Deadline(0); got != -1 {
				t.Fatalf("Deadline(0) = %d behind a call that ended, want -1", got)
			}
		}
	}
}

func TestTheNextCallHasItsOwnDeadlineP9_1(t *testing.T) {
	p := newPair(t, 1, true, true)
	for _, d := range []int{7, -1, 0, math.MaxInt64, 3, -1, 1 << 40, 0} {
		p.is(p.lock(0, d), api.OK)
		p.does(0, api.Locking, d)
		p.ends(0, api.TimedOut, api.Idle)
	}
}

func TestADeadlineIsOfACallForTheLockAloneP9_1(t *testing.T) {
	p := newPair(t, 1, true, true)
	p.does(0, api.Idle, -1)
	p.lock(0, 8)
	p.ends(0, api.Granted, api.Holding)
	p.probe(0)
	p.does(0, api.Probing, -1)
	p.ends(0, api.Alone, api.Holding)
	p.unlock(0)
	p.does(0, api.Unlocking, -1)
	p.ends(0, api.Released, api.Idle)
}

func TestASecondLockChangesNothingP9_1(t *testing.T) {
	for _, first := range []int{-1, 0, 5, math.MaxInt64} {
		p := newPair(t, 2, true, true)
		p.lock(0, first)
		for _, second := range []int{-1, 0, 4, 6, math.MaxInt64} {
			p.is(p.lock(0, second), api.ErrBusy)
			p.does(0, api.Locking, first)
		}
	}
	for _, state := range []int{api.Holding, api.Unlocking, api.Probing} {
		p := newPair(t, 1, true, true)
		p.bring(0, state)
		for _, second := range []int{-1, 0, 4} {
			p.is(p.lock(0, second), api.ErrBusy)
			p.does(0, state, -1)
		}
	}
}

func TestSeatsWithoutDeadlinesP9_1(t *testing.T) {
	for _, probed := range []bool{false, true} {
		p := newPair(t, 2, false, probed)
		for _, d := range []int{0, 1, 5, math.MaxInt64, 1<<32 - 1, 1 << 32, -2, math.MinInt64} {
			p.is(p.lock(0, d), api.ErrArg)
			p.does(0, api.Idle, -1)
		}
		p.is(p.lock(0, -1), api.OK)
		p.does(0, api.Locking, -1)
	}
}

func TestSeatsWithoutProbesP9_1(t *testing.T) {
	for _, timed := range []bool{false, true} {
		for state := api.Idle; state <= api.Unlocking; state++ {
			p := newPair(t, 2, timed, false)
			p.bring(0, state)
			p.is(p.probe(0), api.ErrArg)
			p.does(0, state, -1)
			for _, none := range noContexts(2) {
				p.is(p.probe(none), api.ErrArg)
			}
		}
	}
}

func TestACallChangesNoOtherContextP9_1(t *testing.T) {
	for state := api.Idle; state <= api.Probing; state++ {
		for _, c := range []int{0, 1, 31, 32, 62, 63} {
			p := newPair(t, 64, true, true)
			for other := range 64 {
				if other != c {
					p.bring(other, (other+state)%5)
				}
			}
			p.is(p.lock(c, c), api.OK)
			p.ends(c, api.Granted, api.Holding)
			p.is(p.probe(c), api.OK)
			p.ends(c, api.Company, api.Holding)
			p.is(p.unlock(c), api.OK)
			p.ends(c, api.Released, api.Idle)
			p.is(p.lock(c, 0), api.OK)
			p.ends(c, api.Refused, api.Idle)
		}
	}
}

func TestEachContextHasItsOwnDeadlineP9_1(t *testing.T) {
	p := newPair(t, 64, true, false)
	for c := range 64 {
		p.is(p.lock(c, 1000-c), api.OK)
	}
	for c := range 64 {
		p.does(c, api.Locking, 1000-c)
	}
	for c := range 64 {
		p.ends(63-c, 1+c%2, []int{api.Holding, api.Idle}[c%2])
	}
}

// Layer 9 knows of no lock: several contexts may hold at once.
func TestSeveralMayHoldP9_1(t *testing.T) {
	p := newPair(t, 3, false, true)
	for c := range 3 {
		p.bring(c, api.Holding)
	}
	for c := range 3 {
		p.does(c, api.Holding, -1)
	}
}

func TestTwoSeatsAreApartP9_1(t *testing.T) {
	a, b := newPair(t, 3, true, true), newPair(t, 3, false, false)
	a.lock(0, 4)
	a.bring(1, api.Probing)
	b.holds()
	b.lock(0, -1)
	b.bring(2, api.Holding)
	a.holds()
	a.ends(0, api.TimedOut, api.Idle)
	a.ends(1, api.Company, api.Holding)
	b.does(0, api.Locking, -1)
	b.ends(0, api.Granted, api.Holding)
	b.is(b.lock(1, 3), api.ErrArg)
	a.is(a.lock(2, 3), api.OK)
	b.holds()
	b.is(b.probe(0), api.ErrArg)
	a.is(a.probe(1), api.OK)
	newPair(t, 64, true, true)
	a.holds()
	b.holds()
}

func TestNewOfTooFewOrTooManyP9_1(t *testing.T) {
	wrong := []int{0, -1, -2, -64, 65, 66, 128, 256, 257, 1 << 16, 1<<16 + 1, 1 << 32, 1<<32 + 1, 1<<32 + 64, -1<<32 + 1, math.MinInt32, math.MaxInt32, math.MinInt64, math.MinInt64 + 1, math.MaxInt64}
	for _, n := range wrong {
		for flags := range 4 {
			timed, probed := flags&1 != 0, flags&2 != 0
			if s, e := seat.New(n, timed, probed); s != nil || e != api.ErrArg {
				t.Fatalf("New(%d, %v, %v) = %v, %d, want nil, ErrArg", n, timed, probed, s, e)
			}
		}
	}
}

func TestNoSuchContextP9_1(t *testing.T) {
	for _, n := range []int{1, 2, 7, 63, 64} {
		p := newPair(t, n, true, true)
		for c := range n {
			p.bring(c, c%5)
		}
		for _, none := range noContexts(n) {
			p.is(p.lock(none, -1), api.ErrArg)
			p.is(p.lock(none, 3), api.ErrArg)
			p.is(p.unlock(none), api.ErrArg)
			p.is(p.probe(none), api.ErrArg)
			p.does(none, api.Idle, -1)
			for event := range 8 {
				if p.end(none, event) {
					t.Fatalf("End(%d, %d) = true, where there is no such context", none, event)
				}
			}
		}
	}
}

func TestDeadlinesThatMayNotBeP9_1(t *testing.T) {
	for _, d := range []int{-2, -3, -64, math.MinInt32, -1 << 32, -1<<32 - 1, math.MinInt64, math.MinInt64 + 1} {
		for _, timed := range []bool{false, true} {
			p := newPair(t, 2, timed, true)
			p.is(p.lock(1, d), api.ErrArg)
			p.does(1, api.Idle, -1)
		}
	}
}

func TestTheErrorThatIsNamedFirstP9_1(t *testing.T) {
	for _, state := range []int{api.Locking, api.Holding, api.Unlocking, api.Probing} {
		p := newPair(t, 1, true, true)
		p.bring(0, state)
		p.is(p.lock(0, -2), api.ErrArg)
		p.is(p.lock(0, 0), api.ErrBusy)
		p = newPair(t, 1, false, true)
		p.bring(0, state)
		p.is(p.lock(0, -2), api.ErrArg)
		p.is(p.lock(0, 0), api.ErrArg)
		p.is(p.lock(0, -1), api.ErrBusy)
		p.is(p.lock(1, -1), api.ErrArg)
	}
	p := newPair(t, 1, true, false)
	p.is(p.probe(0), api.ErrArg)
	p.is(p.unlock(1), api.ErrArg)
	p.lock(0, -1)
	p.is(p.probe(0), api.ErrArg)
}

// lcg makes numbers that look like any, the same ones each time.
type lcg uint64

func (r *lcg) below(n int) int {
	*r = *r*6364136223846793005 + 1442695040888963407
	return int(uint64(*r) >> 33 % uint64(n))
}

// context is one of n, or now and then one that isn't.
func (r *lcg) context(n int) int {
	if r.below(16) == 0 {
		none := noContexts(n)
		return none[r.below(len(none))]
	}
	return r.below(n)
}

// deadline is -1, a small one, a great one, or one that may not be.
func (r *lcg) deadline() int {
	switch r.below(8) {
	case 0, 1, 2:
		return -1
	case 3:
		return -2 - r.below(3)
	case 4:
		return math.MaxInt64 - r.below(3)
	}
	return r.below(20)
}

// any does any call.
func (p *pair) any(r *lcg, n int) {
	p.Helper()
	switch t := r.context(n); r.below(8) {
	case 0, 1:
		p.lock(t, r.deadline())
	case 2:
		p.unlock(t)
	case 3:
		p.probe(t)
	case 4:
		list := events()
		p.end(t, list[r.below(len(list))])
	default:
		p.end(t, r.below(8))
	}
}

func TestAnyCallsP9_1(t *testing.T) {
	var r lcg = 9
	for _, n := range []int{1, 2, 3, 8, 63, 64} {
		for flags := range 4 {
			p := newPair(t, n, flags&1 != 0, flags&2 != 0)
			other := newPair(t, n, flags&2 == 0, flags&1 == 0)
			for range 600 + 60*n {
				p.any(&r, n)
				if r.below(4) == 0 {
					other.any(&r, n)
				}
			}
			p.holds()
			other.holds()
		}
	}
}
