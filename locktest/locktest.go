// Package locktest holds locks against models of them. The tests of the locks
// and of what runs and checks them (layers 10 to 20) share it; no layer calls it.
package locktest

import (
	"slices"

	"weighlock/api"
	"weighlock/plan"
	"weighlock/port"
)

// T is what it needs of a test.
type T interface {
	Helper()
	Fatalf(format string, args ...any)
}

// Lock is what each lock can do.
type Lock interface {
	Use(p *port.Port)
	Lock(t, deadline int) api.Errno
	Unlock(t int) api.Errno
	Probe(t int) api.Errno
	Step(t, as, now int) api.Did
	State(t int) int
	Len() int
}

// Model is what a chapter says of a lock's steps, in plain words, over a port
// of its own. Step is a step of a context in which a call is under way, and
// hasn't to keep what contexts do.
type Model interface {
	Use(p *port.Port)
	Step(state, t, as int) api.Did
}

// Timed is a model of a lock that takes deadlines. At tells it the tick of the
// step that follows, and the deadline of the call for the lock that this is one
// of.
type Timed interface {
	Model
	At(now, deadline int)
}

// Kind is how a lock and its model are made; each lays its words in a plan of
// its own.
type Kind struct {
	Probed bool // whether Probe is taken
	Timed  bool // whether deadlines are; such a lock's model is Timed
	Lay    func(p *plan.Plan, homes []int) (Lock, api.Errno)
	Model  func(p *plan.Plan, homes []int) Model
	// Homes is homes of so many contexts, of which the suite's locks are; nil:
	// those of the function Homes.
	Homes func(n, first int) []int
	// More is what else such a lock tells of a context, whether it is there or
	// not, and what its model tells; nil: nothing.
	More func(l Lock, m Model, t int) (got, want int)
}

// homes is homes of so many contexts.
func (k Kind) homes(n, first int) []int {
	if k.Homes == nil {
		return Homes(n, first)
	}
	return k.Homes(n, first)
}

// Pair is a lock over a port, and its model over another one.
type Pair struct {
	T
	Lock  Lock
	Port  *port.Port
	First int // the address of its first word
	Now   int // the tick of Does and Until, and of Any, with which it rises
	twin  *port.Port
	model Model
	kind  Kind

	homes, states, deadlines []int // of each context
	asked                    int   // of how many contexts it asked what more a lock tells
}

// New is a lock of contexts with these homes, as NewRow has them.
func New(t T, threads int, k Kind, homes ...int) *Pair {
	t.Helper()
	return NewRow(t, threads, k, homes)[0]
}

// NewRow is locks with these homes, one behind the other in one plan, each with
// a strange word in front and behind the last one, over one port.
func NewRow(t T, threads int, k Kind, homes ...[]int) []*Pair {
	t.Helper()
	laid, by := plan.New(threads), plan.New(threads)
	var pairs []*Pair
	for i, h := range homes {
		strange(i, laid, by)
		pairs = append(pairs, lay(t, laid, by, k, h))
	}
	strange(len(homes), laid, by)
	x, y := ports(t, laid, by)
	for _, p := range pairs {
		p.Use(x, y)
	}
	return pairs
}

// strange lays a word that isn't a lock's in each of two plans.
func strange(i int, laid, by *plan.Plan) {
	for _, p := range []*plan.Plan{laid, by} {
		p.Word((5*i+3)%api.MaxNodes, uint32(100+i))
	}
}

// lay lays a lock in the one plan, its model in the other one.
func lay(t T, laid, by *plan.Plan, k Kind, homes []int) *Pair {
	t.Helper()
	first := laid.Len()
	l, e := k.Lay(laid, homes)
	if e != api.OK {
		t.Fatalf("New with the homes %v: %d", homes, e)
	}
	m := k.Model(by, homes)
	if got, want := laid.Len(), by.Len(); got != want {
		t.Fatalf("New with the homes %v: the plan has %d words, want %d", homes, got, want)
	}
	p := pair(t, k, l, m, homes)
	p.First = first
	return p
}

// ports is a port of each of two plans.
func ports(t T, laid, by *plan.Plan) (*port.Port, *port.Port) {
	t.Helper()
	x, e := laid.Port()
	y, f := by.Port()
	if e != api.OK || f != api.OK {
		t.Fatalf("no ports: %d, %d", e, f)
	}
	return x, y
}

// Ready is a lock with these homes that has been laid as the only one in a plan,
// and is used over the port of that; its model is the only one of its plan, too.
func Ready(t T, k Kind, l Lock, x *port.Port, homes []int) *Pair {
	t.Helper()
	by := plan.New(len(homes))
	m := k.Model(by, homes)
	y, e := by.Port()
	if e != api.OK {
		t.Fatalf("no port: %d", e)
	}
	m.Use(y)
	p := pair(t, k, l, m, homes)
	p.Port, p.twin = x, y
	p.Holds()
	return p
}

// pair is a lock with these homes, and its model.
func pair(t T, k Kind, l Lock, m Model, homes []int) *Pair {
	n := len(homes)
	return &Pair{T: t, Lock: l, model: m, kind: k, homes: slices.Clone(homes), states: make([]int, n), deadlines: make([]int, n)}
}

// Use uses the lock over the one port, its model over the other one.
func (p *Pair) Use(x, y *port.Port) {
	p.Helper()
	p.Lock.Use(x)
	p.model.Use(y)
	p.Port, p.twin = x, y
	p.Holds()
}

// Holds asks Len, State of every context and what more it tells of some, and all
// of the port.
func (p *Pair) Holds() {
	p.Helper()
	if got := p.Lock.Len(); got != len(p.states) {
		p.Fatalf("Len() = %d, want %d", got, len(p.states))
	}
	for t, want := range p.states {
		if got := p.Lock.State(t); got != want {
			p.Fatalf("State(%d) = %d, want %d", t, got, want)
		}
	}
	// By turns, where there are many: to ask all of them may take long.
	for range min(len(p.states), 8) {
		p.more(p.asked % len(p.states))
		p.asked++
	}
	p.more(-1)
	p.more(len(p.states))
	same(p, p.Port, p.twin)
}

// more asks what more the lock tells of a context.
func (p *Pair) more(t int) {
	if p.kind.More == nil {
		return
	}
	if got, want := p.kind.More(p.Lock, p.model, t); got != want {
		p.Helper()
		p.Fatalf("more of %d: %d, want %d", t, got, want)
	}
}

// same holds a port against what it must be.
func same(t T, got, want *port.Port) {
	t.Helper()
	if a, b := got.Words(), want.Words(); !slices.Equal(a, b) {
		t.Fatalf("words %v, want %v", a, b)
	}
	for w := range want.Len() {
		if a, b := got.Home(w), want.Home(w); a != b {
			t.Fatalf("Home(%d) = %d, want %d", w, a, b)
		}
	}
	if a, b := got.Threads(), want.Threads(); a != b {
		t.Fatalf("%d threads, want %d", a, b)
	}
	for c := range want.Threads() {
		if a, b := counts(got, c), counts(want, c); a != b {
			t.Fatalf("accesses, writes, misses of %d: %v, want %v", c, a, b)
		}
	}
}

// counts is how many accesses, writes and misses a thread had.
func counts(p *port.Port, t int) [3]int {
	return [3]int{p.Accesses(t), p.Writes(t), p.Misses(t)}
}

// has tells whether there is such a context.
func (p *Pair) has(t int) bool { return 0 <= t && t < len(p.states) }

// AllIdle tells whether all contexts are idle.
func (p *Pair) AllIdle() bool {
	for t := range p.states {
		if p.Lock.State(t) != api.Idle {
			return false
		}
	}
	return true
}

// Call does one Lock, and asks all behind it; so do the calls that follow.
func (p *Pair) Call(t, deadline int) api.Errno {
	p.Helper()
	got, want := p.Lock.Lock(t, deadline), p.locks(t, deadline)
	if got != want {
		p.Fatalf("Lock(%d, %d) = %d, want %d", t, deadline, got, want)
	}
	p.Holds()
	return got
}

// locks is what Lock must answer and do.
func (p *Pair) locks(t, deadline int) api.Errno {
	if !p.has(t) || deadline < -1 || deadline != -1 && !p.kind.Timed {
		return api.ErrArg
	}
	if p.states[t] != api.Idle {
		return api.ErrBusy
	}
	p.states[t], p.deadlines[t] = api.Locking, deadline
	return api.OK
}

// Unlock does one Unlock.
func (p *Pair) Unlock(t int) api.Errno {
	p.Helper()
	got, want := p.Lock.Unlock(t), p.leaves(t, api.Unlocking, true)
	if got != want {
		p.Fatalf("Unlock(%d) = %d, want %d", t, got, want)
	}
	p.Holds()
	return got
}

// Probe does one Probe.
func (p *Pair) Probe(t int) api.Errno {
	p.Helper()
	got, want := p.Lock.Probe(t), p.leaves(t, api.Probing, p.kind.Probed)
	if got != want {
		p.Fatalf("Probe(%d) = %d, want %d", t, got, want)
	}
	p.Holds()
	return got
}

// leaves is what Unlock and Probe must answer and do.
func (p *Pair) leaves(t, next int, taken bool) api.Errno {
	if !p.has(t) || !taken {
		return api.ErrArg
	}
	if p.states[t] == api.Idle {
		return api.ErrNotHeld
	}
	if p.states[t] != api.Holding {
		return api.ErrBusy
	}
	p.states[t] = next
	return api.OK
}

// Step does one Step.
func (p *Pair) Step(t, as, now int) api.Did {
	p.Helper()
	got, want := p.Lock.Step(t, as, now), p.steps(t, as, now)
	if got != want {
		p.Fatalf("Step(%d, %d, %d) = %v, want %v", t, as, now, got, want)
	}
	p.Holds()
	return got
}

// steps is what Step must answer and do.
func (p *Pair) steps(t, as, now int) api.Did {
	if !p.has(t) || p.states[t] == api.Idle || p.states[t] == api.Holding {
		return api.Did{}
	}
	if m, ok := p.model.(Timed); ok {
		m.At(now, p.deadlines[t])
	}
	did := p.model.Step(p.states[t], t, as)
	switch did.Event {
	case api.Granted, api.Alone, api.Company:
		p.states[t] = api.Holding
	case api.Released, api.TimedOut, api.Refused:
		p.states[t] = api.Idle
	}
	return did
}

// Does does steps by the context's own thread, and says what each must do.
func (p *Pair) Does(t int, want ...api.Did) {
	p.Helper()
	for _, did := range want {
		if got := p.Step(t, t, p.Now); got != did {
			p.Fatalf("step of %d: %v, want %v", t, got, did)
		}
	}
}

// Calls begins a call for the lock, which must be right.
func (p *Pair) Calls(t int) {
	p.Helper()
	p.CallsTill(t, -1)
}

// CallsTill does so with a deadline.
func (p *Pair) CallsTill(t, deadline int) {
	p.Helper()
	if e := p.Call(t, deadline); e != api.OK {
		p.Fatalf("Lock(%d, %d) = %d", t, deadline, e)
	}
}

// Until does steps of a context till one comes to this event; it may take a
// hundred.
func (p *Pair) Until(t, event int) {
	p.Helper()
	for range 100 {
		if p.Step(t, t, p.Now).Event == event {
			return
		}
	}
	p.Fatalf("a hundred steps of %d: none came to %d", t, event)
}

// Bring brings an idle context, in whose way nobody is, to a state.
func (p *Pair) Bring(t, state int) {
	p.Helper()
	if state != api.Idle {
		p.Calls(t)
	}
	if state == api.Holding || state == api.Unlocking || state == api.Probing {
		p.Until(t, api.Granted)
	}
	switch state {
	case api.Unlocking:
		p.Unlock(t)
	case api.Probing:
		p.Probe(t)
	}
	if got := p.Lock.State(t); got != state {
		p.Fatalf("State(%d) = %d, want %d", t, got, state)
	}
}

// GoesOn does what a context does next, in whatever state it is: it calls for the
// lock, unlocks, or does a step.
func (p *Pair) GoesOn(t, as int) api.Did {
	p.Helper()
	switch p.Lock.State(t) {
	case api.Idle:
		p.Calls(t)
	case api.Holding:
		p.Unlock(t)
	default:
		return p.Step(t, as, p.Now)
	}
	return api.Did{}
}

// Sets stores a value into a lock's word, counted from its first one, of both
// ports.
func (p *Pair) Sets(word int, v uint32) {
	p.Port.Store(0, p.First+word, v)
	p.twin.Store(0, p.First+word, v)
}

// Words says what the lock's words must be.
func (p *Pair) Words(want ...uint32) {
	p.Helper()
	if got := p.Port.Words()[p.First:][:len(want)]; !slices.Equal(got, want) {
		p.Fatalf("the lock's words are %v, want %v", got, want)
	}
}

// Any does a call or a step of those that there are, now and then a wrong one.
func (p *Pair) Any(r *Numbers) {
	p.Helper()
	p.Now += r.Below(2)
	t, deadline := r.Below(len(p.states)), p.soon(r)
	if r.Below(16) == 0 {
		t = r.Of(NoContexts(len(p.states)))
	}
	if r.Below(16) == 0 {
		deadline = r.Of(Deadlines())
	}
	p.does(r.Below(12), t, r.Below(p.Port.Threads()), deadline)
}

// does does a call of a context, or a step of it by that thread, and tells what
// came of it.
func (p *Pair) does(which, t, as, deadline int) (api.Errno, api.Did) {
	p.Helper()
	switch which {
	case 0, 1:
		return p.Call(t, deadline), api.Did{}
	case 2:
		return p.Unlock(t), api.Did{}
	case 3:
		return p.Probe(t), api.Did{}
	}
	return api.OK, p.Step(t, as, p.Now)
}

// soon is a deadline that is taken: none, one that is over, or one some steps of
// each context away.
func (p *Pair) soon(r *Numbers) int {
	if !p.kind.Timed || r.Below(2) == 0 {
		return -1
	}
	return max(p.Now-4, 0) + r.Below(16*len(p.states))
}
