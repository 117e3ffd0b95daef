package flat_test

import (
	"math"
	"slices"
	"testing"

	"weighlock/api"
	"weighlock/flat"
	"weighlock/plan"
	"weighlock/port"
)

// What steps do.
var (
	nothing  = api.Did{}
	enq      = api.Did{Enq: true}
	granted  = api.Did{Event: api.Granted}
	released = api.Did{Event: api.Released}
	alone    = api.Did{Event: api.Alone}
	company  = api.Did{Event: api.Company}
)

// starts are where numbers go round soon, late, or in between.
var starts = []uint32{0, 1, 2, 7, 63, 1<<31 - 2, 1<<31 - 1, 1 << 31, 1<<32 - 66, 1<<32 - 5, 1<<32 - 4, 1<<32 - 3, 1<<32 - 2, 1<<32 - 1}

// lcg tells numbers that look any, but are the same each time.
type lcg uint64

func (r *lcg) below(n int) int {
	*r = *r*6364136223846793005 + 1442695040888963407
	return int(uint64(*r) >> 33 % uint64(n))
}

// noContexts are numbers of no context where there are n; some of them would
// be one if they were cut to fewer bits.
func noContexts(n int) []int {
	return []int{-1, -2, -n, -n - 1, -64, n, n + 1, n + 64, 2 * n, math.MinInt64, math.MaxInt64, math.MinInt32, math.MaxInt32, 1 << 32, 1<<32 + n - 1, -1 << 32, 1<<32 - 1, 1 << 16, 1 << 8, 64 << 8}
}

// deadlines are those that aren't taken.
var deadlines = []int{0, 1, 2, 20, -2, -3, math.MinInt64, math.MaxInt64, 1<<32 - 1, -1 - 1<<32, 255}

// model is what the chapter says, in plain words, over a port of its own: what
// each context does, and its number from its Enq on.
type model struct {
	port        *port.Port
	next, owner int
	states      []int
	numbers     []uint32
	drawn       []bool
}

func newModel(p *port.Port, first, contexts int) *model {
	return &model{p, first, first + 1, make([]int, contexts), make([]uint32, contexts), make([]bool, contexts)}
}

func (m *model) has(t int) bool { return 0 <= t && t < len(m.states) }

func (m *model) lock(t, deadline int) api.Errno {
	if !m.has(t) || deadline != -1 {
		return api.ErrArg
	}
	if m.states[t] != api.Idle {
		return api.ErrBusy
	}
	m.states[t] = api.Locking
	return api.OK
}

// from is what Unlock and Probe have in common.
func (m *model) from(t, next int) api.Errno {
	if !m.has(t) {
		return api.ErrArg
	}
	if m.states[t] == api.Idle {
		return api.ErrNotHeld
	}
	if m.states[t] != api.Holding {
		return api.ErrBusy
	}
	m.states[t] = next
	return api.OK
}

func (m *model) step(t, as int) api.Did {
	switch {
	case !m.has(t):
	case m.states[t] == api.Locking && !m.drawn[t]:
		m.numbers[t], m.drawn[t] = m.port.Add(as, m.next, 1), true
		return enq
	case m.states[t] == api.Locking:
		if m.port.Load(as, m.owner) == m.numbers[t] {
			m.states[t] = api.Holding
			return granted
		}
	case m.states[t] == api.Unlocking:
		m.port.Store(as, m.owner, m.numbers[t]+1)
		m.states[t], m.drawn[t] = api.Idle, false
		return released
	case m.states[t] == api.Probing:
		m.states[t] = api.Holding
		if m.port.Load(as, m.next) == m.numbers[t]+1 {
			return alone
		}
		return company
	}
	return nothing
}

// pair is a lock over a port, and the model of it over another one.
type pair struct {
	*testing.T
	lock  *flat.Lock
	port  *port.Port
	model *model
}

// home is where the word of that number lies, of those that aren't the locks'.
func home(i int) int { return (5*i + 3) % api.MaxNodes }

// newPairs is locks with these homes, one behind the other in one plan, each
// with a strange word in front and behind the last one, over one port; their
// models' words are laid by hand.
func newPairs(t *testing.T, threads int, start uint32, homes ...[]int) []*pair {
	t.Helper()
	laid, by := plan.New(threads), plan.New(threads)
	var pairs []*pair
	for i, h := range homes {
		for _, p := range []*plan.Plan{laid, by} {
			p.Word(home(i), uint32(100+i))
		}
		l, e := flat.New(laid, h, start)
		if l == nil || e != api.OK {
			t.Fatalf("New(%v, %d) = %v, %d, want a lock", h, start, l, e)
		}
		first := by.Word(h[0], start)
		by.Word(h[0], start)
		pairs = append(pairs, &pair{T: t, lock: l, model: newModel(nil, first, len(h))})
	}
	for _, p := range []*plan.Plan{laid, by} {
		p.Word(home(len(homes)), 99)
	}
	x, y := ports(t, laid, by)
	for _, p := range pairs {
		p.use(x, y)
	}
	return pairs
}

// ports is a port of each of two plans.
func ports(t *testing.T, laid, by *plan.Plan) (*port.Port, *port.Port) {
	t.Helper()
	x, e := laid.Port()
	if e != api.OK {
		t.Fatal("no port", e)
	}
	y, e := by.Port()
	if e != api.OK {
		t.Fatal("no port", e)
	}
	return x, y
}

func newPair(t *testing.T, threads int, start uint32, homes ...int) *pair {
	t.Helper()
	return newPairs(t, threads, start, homes)[0]
}

// use uses the lock over the one port, its model over the other one.
func (p *pair) use(x, y *port.Port) {
	p.Helper()
	p.lock.Use(x)
	p.port, p.model.port = x, y
	p.holds()
}

// holds asks Len, State of every context, and all of the port.
func (p *pair) holds() {
	p.Helper()
	if got := p.lock.Len(); got != len(p.model.states) {
		p.Fatalf("Len() = %d, want %d", got, len(p.model.states))
	}
	for t, want := range p.model.states {
		if got := p.lock.State(t); got != want {
			p.Fatalf("State(%d) = %d, want %d", t, got, want)
		}
	}
	if got, want := p.port.Words(), p.model.port.Words(); !slices.Equal(got, want) {
		p.Fatalf("words %v, want %v", got, want)
	}
	for a := range p.model.port.Len() {
		if got, want := p.port.Home(a), p.model.port.Home(a); got != want {
			p.Fatalf("Home(%d) = %d, want %d", a, got, want)
		}
	}
	for t := range p.model.port.Threads() {
		if got, want := counts(p.port, t), counts(p.model.port, t); got != want {
			p.Fatalf("accesses, writes, misses of %d: %v, want %v", t, got, want)
		}
	}
}

// counts is how many accesses, writes and misses a thread had.
func counts(p *port.Port, t int) [3]int {
	return [3]int{p.Accesses(t), p.Writes(t), p.Misses(t)}
}

// call does one Lock, and asks all behind it; so do the others that follow.
func (p *pair) call(t, deadline int) api.Errno {
	p.Helper()
	got, want := p.lock.Lock(t, deadline), p.model.lock(t, deadline)
	if got != want {
		p.Fatalf("Lock(%d, %d) = %d, want %d", t, deadline, got, want)
	}
	p.holds()
	return got
}

func (p *pair) unlock(t int) api.Errno {
	p.Helper()
	got, want := p.lock.Unlock(t), p.model.from(t, api.Unlocking)
	if got != want {
		p.Fatalf("Unlock(%d) = %d, want %d", t, got, want)
	}
	p.holds()
	return got
}

func (p *pair) probe(t int) api.Errno {
	p.Helper()
	got, want := p.lock.Probe(t), p.model.from(t, api.Probing)
	if got != want {
		p.Fatalf("Probe(%d) = %d, want %d", t, got, want)
	}
	p.holds()
	return got
}

func (p *pair) step(t, as, now int) api.Did {
	p.Helper()
	got, want := p.lock.Step(t, as, now), p.model.step(t, as)
	if got != want {
		p.Fatalf("Step(%d, %d, %d) = %v, want %v", t, as, now, got, want)
	}
	p.holds()
	return got
}

// does does a step by the context's own thread, and says what it must do.
func (p *pair) does(t int, want api.Did) {
	p.Helper()
	if got := p.step(t, t, 0); got != want {
		p.Fatalf("step of %d: %v, want %v", t, got, want)
	}
}

// calls begins a call for the lock, which must be right.
func (p *pair) calls(t int) {
	p.Helper()
	if e := p.call(t, -1); e != api.OK {
		p.Fatalf("Lock(%d, -1) = %d", t, e)
	}
}

// words says what next and owner must be.
func (p *pair) words(next, owner uint32) {
	p.Helper()
	w := p.port.Words()
	if got := w[p.model.next]; got != next {
		p.Fatalf("next is %d, want %d", got, next)
	}
	if got := w[p.model.owner]; got != owner {
		p.Fatalf("owner is %d, want %d", got, owner)
	}
}

// passes brings a context that waits, and whose turn it is, to its end.
func (p *pair) passes(t int) {
	p.Helper()
	p.does(t, granted)
	p.unlock(t)
	p.does(t, released)
}

// any does a call or a step of those that there are, now and then a wrong one.
func (p *pair) any(r *lcg) {
	p.Helper()
	n := p.lock.Len()
	t, deadline := r.below(n), -1
	if r.below(16) == 0 {
		wrong := noContexts(n)
		t = wrong[r.below(len(wrong))]
	}
	if r.below(16) == 0 {
		deadline = deadlines[r.below(len(deadlines))]
	}
	switch r.below(12) {
	case 0, 1:
		p.call(t, deadline)
	case 2:
		p.unlock(t)
	case 3:
		p.probe(t)
	default:
		p.step(t, r.below(p.port.Threads()), r.below(1000)-1)
	}
}

// sets stores a value into a word of both ports.
func (p *pair) sets(a int, v uint32) {
	p.port.Store(0, a, v)
	p.model.port.Store(0, a, v)
}

// near are values that look like a number where only some bits of it are held
// against it, or where it is only asked which one is ahead.
func near(number uint32) []uint32 {
	values := []uint32{0, 1, 1<<32 - 1}
	for bit := range 32 {
		values = append(values, number^1<<bit, number+1<<bit, number-1<<bit)
	}
	return values
}

// A step goes by what the words are, whoever stored it there.
func TestGoesByTheWordsP10_1(t *testing.T) {
	for _, s := range starts {
		p := newPair(t, 2, 5, 1, 1)
		next, owner := p.model.next, p.model.owner
		p.sets(next, s)
		p.calls(1)
		p.does(1, enq)
		for _, v := range near(s) {
			if p.sets(owner, v); v != s {
				p.does(1, nothing)
			}
		}
		p.sets(owner, s)
		p.does(1, granted)
		for _, v := range near(s + 1) {
			if p.sets(next, v); v != s+1 {
				p.probe(1)
				p.does(1, company)
			}
		}
		p.sets(next, s+1)
		p.probe(1)
		p.does(1, alone)
		p.sets(owner, s+40)
		p.unlock(1)
		p.does(1, released)
		p.words(s+1, s+1)
	}
}

// homesOf is homes of so many contexts.
func homesOf(n, first int) []int {
	homes := make([]int, n)
	for i := range homes {
		homes[i] = (first + 3*i) % api.MaxNodes
	}
	return homes
}

func TestExampleP10_1(t *testing.T) {
	p := newPair(t, 1, 0, 0)
	p.calls(0)
	p.does(0, enq)
	p.does(0, granted)
}

// A whole way of a context, with all words behind each step, also where
// numbers go round.
func TestWholeWayP10_1(t *testing.T) {
	for _, s := range starts {
		p := newPair(t, 2, s, 3, 5)
		p.words(s, s)
		p.calls(1)
		p.words(s, s)
		p.does(1, enq)
		p.words(s+1, s)
		p.does(1, granted)
		p.words(s+1, s)
		p.probe(1)
		p.does(1, alone)
		p.calls(0)
		p.probe(1)
		p.does(1, alone)
		p.does(0, enq)
		p.words(s+2, s)
		p.probe(1)
		p.does(1, company)
		p.probe(1)
		p.does(1, company)
		p.does(0, nothing)
		p.unlock(1)
		p.does(0, nothing)
		p.words(s+2, s)
		p.does(1, released)
		p.words(s+2, s+1)
		p.does(0, granted)
		p.probe(0)
		p.does(0, alone)
		p.unlock(0)
		p.does(0, released)
		p.words(s+2, s+2)
	}
}

// Nobody is granted the lock with a number of a call before this one.
func TestEachCallDrawsANumberP10_1(t *testing.T) {
	p := newPair(t, 1, 1<<32-3, 0)
	for i := range uint32(8) {
		p.calls(0)
		p.does(0, enq)
		p.words(1<<32-3+i+1, 1<<32-3+i)
		p.passes(0)
	}
}

func TestAnyCallsP10_1(t *testing.T) {
	r := lcg(10)
	for _, n := range []int{1, 2, 3, 4, 7, 8, 63, 64} {
		for i, s := range starts {
			p := newPair(t, 1+r.below(api.MaxThreads), s, homesOf(n, i)...)
			for range 400 {
				p.any(&r)
			}
		}
	}
}

// Whoever got a number first is granted the lock first, whoever called first
// and whoever looks first.
func TestOrderIsThatOfEnqsP10_1(t *testing.T) {
	r := lcg(3)
	for _, s := range starts {
		p := newPair(t, 64, s, homesOf(16, 1)...)
		var queue []int
		for t := range 16 {
			p.calls(t)
		}
		for len(queue) < 16 {
			if t := r.below(16); !slices.Contains(queue, t) {
				p.does(t, enq)
				queue = append(queue, t)
			}
		}
		for i, t := range queue {
			for _, other := range queue[i+1:] {
				p.does(other, nothing)
			}
			p.does(t, granted)
			for _, other := range queue[i+1:] {
				p.does(other, nothing)
			}
			p.unlock(t)
			p.does(t, released)
		}
		p.words(s+16, s+16)
	}
}

func TestWaitsTillItsTurnP10_1(t *testing.T) {
	p := newPair(t, 3, 1<<32-1, 0, 1, 2)
	for t := range 3 {
		p.calls(t)
		p.does(t, enq)
	}
	for range 2000 {
		p.does(2, nothing)
	}
	p.does(0, granted)
	for range 2000 {
		p.does(2, nothing)
	}
	p.unlock(0)
	p.does(0, released)
	p.does(2, nothing)
	p.passes(1)
	p.passes(2)
	if got := p.port.Accesses(2); got != 1+4000+1+2 {
		t.Errorf("%d accesses", got)
	}
}

// ends does what a context does by turns: it calls, unlocks when it has the
// lock, and calls again as often as is left.
func ends(p *pair, t int, left []int) {
	p.Helper()
	switch {
	case p.lock.State(t) == api.Idle && left[t] > 0:
		left[t]--
		p.calls(t)
	case p.lock.State(t) == api.Holding:
		p.unlock(t)
	default:
		p.step(t, t, 0)
	}
}

func TestByTurnsAllComeToTheirEndsP10_1(t *testing.T) {
	for _, n := range []int{1, 2, 5, 64} {
		p := newPair(t, n, 1<<32-3, homesOf(n, 2)...)
		left := make([]int, n)
		for t := range left {
			left[t] = 2
		}
		// Each passage takes its context four turns at its own, and it waits
		// for no more of them than those of all.
		for range 2*n*4 + 4 {
			for t := range n {
				ends(p, t, left)
			}
		}
		for c := range n {
			if left[c] != 0 || p.lock.State(c) != api.Idle {
				t.Errorf("%d of %d: left %d, state %d", c, n, left[c], p.lock.State(c))
			}
		}
		p.words(1<<32-3+2*uint32(n), 1<<32-3+2*uint32(n))
	}
}

func TestTwoLocksInOnePlanP10_1(t *testing.T) {
	r := lcg(21)
	for _, s := range starts {
		pairs := newPairs(t, 9, s, []int{6, 1, 2}, []int{4, 0}, []int{5})
		for range 1500 {
			pairs[r.below(3)].any(&r)
			for _, p := range pairs {
				p.holds()
			}
		}
	}
}

// Two locks over two ports of one plan: each has all words of the plan in its
// own port, and those of the other one stay what they were there.
func TestTwoPortsOfOnePlanP10_1(t *testing.T) {
	r := lcg(22)
	laid, by := plan.New(4), plan.New(4)
	pairs := []*pair{{T: t}, {T: t}}
	for i, p := range pairs {
		l, e := flat.New(laid, []int{1, 2, 3}, 1<<32-2)
		if e != api.OK {
			t.Fatal(e)
		}
		by.Row(2, 1, 1<<32-2)
		p.lock, p.model = l, newModel(nil, 2*i, 3)
	}
	for _, p := range pairs {
		p.use(ports(t, laid, by))
	}
	for range 2000 {
		pairs[r.below(2)].any(&r)
		pairs[0].holds()
		pairs[1].holds()
	}
	for i, p := range pairs {
		if w := p.port.Words(); w[2-2*i] != 1<<32-2 || w[3-2*i] != 1<<32-2 {
			t.Errorf("lock %d changed %v", i, w)
		}
	}
}

// Use takes the words of another port from now on, and lets those of the
// first one alone; what the contexts do stays.
func TestUseOfAnotherPortP10_1(t *testing.T) {
	laid, by := plan.New(2), plan.New(2)
	l, _ := flat.New(laid, []int{0, 1}, 9)
	by.Row(2, 0, 9)
	p := &pair{T: t, lock: l, model: newModel(nil, 0, 2)}
	x, y := ports(t, laid, by)
	p.use(x, y)
	p.calls(1)
	p.does(1, enq)
	p.calls(0)
	p.does(0, enq)
	p.use(ports(t, laid, by))
	p.words(9, 9)
	p.does(0, nothing)
	p.does(1, granted)
	p.unlock(1)
	p.does(1, released)
	p.words(9, 10)
	p.use(x, y)
	p.words(11, 9)
	p.does(0, nothing)
}

func TestWhereTheWordsLieP10_1(t *testing.T) {
	for _, before := range []int{0, 1, 5, 64} {
		for h := range api.MaxNodes {
			for _, s := range starts {
				p := plan.New(2)
				p.Row(before, 7-h, 77)
				l, e := flat.New(p, []int{h, 7 - h, 7 - h}, s)
				if l == nil || e != api.OK || p.Len() != before+2 || l.Len() != 3 {
					t.Fatal(before, h, s, e, p.Len())
				}
				if a := p.Word(7-h, 5); a != before+2 {
					t.Fatalf("a word behind has the address %d", a)
				}
				x, _ := p.Port()
				if w := x.Words()[before:]; !slices.Equal(w, []uint32{s, s, 5}) {
					t.Fatalf("words %v", w)
				}
				if x.Home(before) != h || x.Home(before+1) != h {
					t.Fatalf("homes %d, %d, want %d", x.Home(before), x.Home(before+1), h)
				}
			}
		}
	}
}

// next lies in front of owner.
func TestNextIsTheFirstWordP10_1(t *testing.T) {
	p := plan.New(1)
	p.Row(3, 1, 8)
	l, _ := flat.New(p, []int{0}, 20)
	x, _ := p.Port()
	l.Use(x)
	for i, want := range [][]uint32{{8, 8, 8, 21, 20}, {8, 8, 8, 21, 20}, {8, 8, 8, 21, 21}} {
		switch i {
		case 0:
			l.Lock(0, -1)
		case 2:
			l.Unlock(0)
		}
		l.Step(0, 0, 0)
		if w := x.Words(); !slices.Equal(w, want) {
			t.Errorf("step %d: words %v, want %v", i, w, want)
		}
	}
}

func TestHowManyContextsP10_1(t *testing.T) {
	for n := 1; n <= api.MaxThreads; n++ {
		p := newPair(t, n, 1<<32-2, homesOf(n, n)...)
		if p.lock.Len() != n {
			t.Fatalf("Len() = %d, want %d", p.lock.Len(), n)
		}
		for c := range n {
			p.calls(c)
			p.does(c, enq)
		}
		for c := range n {
			p.passes(c)
		}
	}
}

func TestHomesFromNoughtToSevenP10_1(t *testing.T) {
	for h := range api.MaxNodes {
		newPair(t, 1, 0, h)
		newPair(t, 3, 0, 7-h, h, 0)
	}
}

// A number of contexts or homes that may not be is refused, and then nothing
// is laid.
func TestWrongHomesP10_1(t *testing.T) {
	wrong := [][]int{nil, {}, make([]int, 65), make([]int, 66), make([]int, 128), make([]int, 256), make([]int, 257), make([]int, 4097)}
	for _, h := range []int{-1, 8, -8, 9, 15, 16, 64, 255, 256, -256, 1 << 32, -1 << 32, 1<<32 + 7, 1<<32 - 1, math.MinInt64, math.MaxInt64, math.MinInt32, math.MaxInt32} {
		wrong = append(wrong, []int{h}, []int{h, 0}, []int{0, h}, []int{7, h, 7}, append(make([]int, 63), h), append(make([]int, 64), h))
		wrong = append(wrong, append([]int{h}, make([]int, 63)...))
	}
	for _, homes := range wrong {
		p := plan.New(3)
		p.Word(1, 4)
		l, e := flat.New(p, homes, 6)
		if l != nil || e != api.ErrArg || p.Len() != 1 {
			t.Errorf("New(%v) = %v, %d, with %d words", homes, l, e, p.Len())
		}
		if a := p.Word(2, 5); a != 1 {
			t.Errorf("New(%v): the word behind lies at %d", homes, a)
		}
		if x, e := p.Port(); e != api.OK || !slices.Equal(x.Words(), []uint32{4, 5}) || x.Home(1) != 2 {
			t.Errorf("New(%v): words %v", homes, x.Words())
		}
	}
}

// bring brings an idle context to a state, by the calls and steps that lead there.
func (p *pair) bring(t, state int) {
	p.Helper()
	if state != api.Idle {
		p.calls(t)
	}
	if state == api.Holding || state == api.Unlocking || state == api.Probing {
		p.does(t, enq)
		p.does(t, granted)
	}
	switch state {
	case api.Unlocking:
		p.unlock(t)
	case api.Probing:
		p.probe(t)
	}
	if got := p.lock.State(t); got != state {
		p.Fatalf("State(%d) = %d, want %d", t, got, state)
	}
}

// answers is what Lock, Unlock and Probe answer in a state.
var answers = []struct {
	state               int
	lock, unlock, probe api.Errno
}{
	{api.Idle, api.OK, api.ErrNotHeld, api.ErrNotHeld},
	{api.Locking, api.ErrBusy, api.ErrBusy, api.ErrBusy},
	{api.Holding, api.ErrBusy, api.OK, api.OK},
	{api.Unlocking, api.ErrBusy, api.ErrBusy, api.ErrBusy},
	{api.Probing, api.ErrBusy, api.ErrBusy, api.ErrBusy},
}

func TestEachCallInEachStateP10_1(t *testing.T) {
	for _, a := range answers {
		for _, n := range []int{1, 3, 64} {
			c := n - 1
			for i, want := range []api.Errno{a.lock, a.unlock, a.probe} {
				p := newPair(t, n, 5, homesOf(n, 0)...)
				p.bring(c, a.state)
				calls := []func(int) api.Errno{func(t int) api.Errno { return p.call(t, -1) }, p.unlock, p.probe}
				if got := calls[i](c); got != want {
					t.Errorf("call %d in state %d: %d, want %d", i, a.state, got, want)
				}
			}
		}
	}
}

// A call for the lock with another deadline than -1 is refused as a wrong
// argument, also where the context is busy.
func TestDeadlinesAreNotTakenP10_1(t *testing.T) {
	for _, a := range answers {
		p := newPair(t, 2, 5, 1, 1)
		p.bring(1, a.state)
		for _, d := range deadlines {
			if e := p.call(1, d); e != api.ErrArg {
				t.Errorf("Lock(1, %d) in state %d = %d", d, a.state, e)
			}
		}
	}
}

func TestNoSuchContextP10_1(t *testing.T) {
	for _, n := range []int{1, 2, 63, 64} {
		p := newPair(t, 3, 5, homesOf(n, 0)...)
		p.bring(n-1, api.Holding)
		for _, c := range noContexts(n) {
			if p.lock.State(c) != api.Idle {
				t.Errorf("State(%d) = %d", c, p.lock.State(c))
			}
			for _, d := range append(deadlines, -1) {
				if e := p.call(c, d); e != api.ErrArg {
					t.Errorf("Lock(%d, %d) = %d", c, d, e)
				}
			}
			if u, q := p.unlock(c), p.probe(c); u != api.ErrArg || q != api.ErrArg {
				t.Errorf("Unlock(%d) = %d, Probe(%d) = %d", c, u, c, q)
			}
			for _, as := range append(noContexts(3), 0, 1, 2) {
				if did := p.step(c, as, as); did != nothing {
					t.Errorf("Step(%d, %d) = %v", c, as, did)
				}
			}
		}
	}
}

// A step of one who has nothing under way does nothing, whoever does it.
func TestStepOfIdleAndHoldingP10_1(t *testing.T) {
	for _, state := range []int{api.Idle, api.Holding} {
		p := newPair(t, 3, 1<<32-1, 1, 2)
		p.bring(1, state)
		for as := range 3 {
			if did := p.step(1, as, 7); did != nothing {
				t.Errorf("state %d: %v", state, did)
			}
		}
	}
}

// Any thread of the port does a context's steps: the accesses are its own.
func TestStepsByOtherThreadsP10_1(t *testing.T) {
	p := newPair(t, 5, 3, 1, 2)
	p.calls(0)
	p.step(0, 4, 0)
	p.step(0, 3, 0)
	p.probe(0)
	p.step(0, 2, 0)
	p.unlock(0)
	p.step(0, 1, 0)
	for t, want := range [][2]int{{0, 0}, {1, 1}, {1, 0}, {1, 0}, {1, 1}} {
		if got := [2]int{p.port.Accesses(t), p.port.Writes(t)}; got != want {
			p.Errorf("accesses and writes of %d: %v, want %v", t, got, want)
		}
	}
}

// What tick it is changes nothing.
func TestAnyTickP10_1(t *testing.T) {
	for _, now := range []int{0, 1, -1, 64, 1 << 32, math.MinInt64, math.MaxInt64} {
		p := newPair(t, 1, 0, 4)
		p.calls(0)
		a, b := p.step(0, 0, now), p.step(0, 0, now)
		p.probe(0)
		c := p.step(0, 0, now)
		p.unlock(0)
		d := p.step(0, 0, now)
		if got := [4]api.Did{a, b, c, d}; got != [4]api.Did{enq, granted, alone, released} {
			t.Errorf("at the tick %d: %v", now, got)
		}
	}
}

// The homes that are handed in aren't written into, and aren't kept.
func TestHomesStayTheAskersP10_1(t *testing.T) {
	p, homes := plan.New(2), []int{3, 4, 5, 6}
	l, e := flat.New(p, homes[:2], 1)
	if e != api.OK || !slices.Equal(homes, []int{3, 4, 5, 6}) {
		t.Fatal(e, homes)
	}
	homes[0], homes[1] = 99, -1
	x, _ := p.Port()
	l.Use(x)
	if l.Len() != 2 || x.Home(0) != 3 || x.Home(1) != 3 {
		t.Error(l.Len(), x.Home(0), x.Home(1))
	}
	if l.Lock(1, -1) != api.OK || l.Step(1, 1, 0) != enq || l.Step(1, 1, 0) != granted {
		t.Error("it goes by what was handed in")
	}
}

// total is how many accesses all threads of a port had.
func total(p *port.Port) int {
	sum := 0
	for t := range p.Threads() {
		sum += p.Accesses(t)
	}
	return sum
}

// Each step has one access at most, by the thread that steps; a step of one
// who has something under way has just one, any other has none.
func TestOneAccessAStepP10_2(t *testing.T) {
	r := lcg(102)
	for _, n := range []int{1, 2, 5, 64} {
		for _, s := range []uint32{0, 1<<32 - 2} {
			p := newPair(t, 8, s, homesOf(n, 0)...)
			for range 2000 {
				c, as := r.below(n+2)-1, r.below(8)
				want := 1
				if s := p.lock.State(c); s == api.Idle || s == api.Holding {
					want = 0
				}
				all, own := total(p.port), p.port.Accesses(as)
				p.lock.Step(c, as, 0)
				if got := total(p.port) - all; got != want {
					t.Fatalf("%d accesses, want %d", got, want)
				}
				if got := p.port.Accesses(as) - own; got != want {
					t.Fatalf("%d accesses of %d, want %d", got, as, want)
				}
				switch r.below(4) {
				case 0:
					p.lock.Lock(c, -1)
				case 1:
					p.lock.Unlock(c)
				case 2:
					p.lock.Probe(c)
				}
			}
		}
	}
}

// Nothing but a step has an access, and no New or Use has one.
func TestNoAccessButAStepsP10_2(t *testing.T) {
	for _, a := range answers {
		p := newPair(t, 3, 8, 2, 3, 4)
		if got := total(p.port); got != 0 {
			t.Fatalf("%d accesses ahead of any step", got)
		}
		p.bring(1, a.state)
		all, words := total(p.port), p.port.Words()
		p.lock.Use(p.port)
		for c := -2; c < 6; c++ {
			p.lock.State(c)
			p.lock.Lock(c, 3)
			p.lock.Lock(c, -1)
			p.lock.Unlock(c)
			p.lock.Probe(c)
			p.lock.Len()
		}
		if got := total(p.port); got != all || !slices.Equal(p.port.Words(), words) {
			t.Errorf("state %d: %d accesses, were %d", a.state, got, all)
		}
	}
}

// The same calls and steps tell the same whatever the start is, and the words
// are just as far from it.
func TestNumbersGoRoundP10_3(t *testing.T) {
	for seed := range lcg(20) {
		for _, s := range starts {
			r, q := seed, seed
			p, base := newPair(t, 6, s, 0, 1, 2, 3, 4), newPair(t, 6, 0, 0, 1, 2, 3, 4)
			for range 300 {
				p.any(&r)
				base.any(&q)
				w, v := p.port.Words(), base.port.Words()
				if w[1]-s != v[1] || w[2]-s != v[2] {
					t.Fatalf("from %d: %v, from 0: %v", s, w, v)
				}
				if !slices.Equal(p.model.states, base.model.states) {
					t.Fatalf("from %d: %v, from 0: %v", s, p.model.states, base.model.states)
				}
			}
		}
	}
}

// Numbers and owner go round while contexts wait.
func TestGoingRoundWhileTheyWaitP10_3(t *testing.T) {
	for back := range uint32(6) {
		s := -back
		p := newPair(t, 4, s, 3, 2, 1, 0)
		for c := range 4 {
			p.calls(c)
			p.does(c, enq)
		}
		p.words(s+4, s)
		for c := range 4 {
			for d := c + 1; d < 4; d++ {
				p.does(d, nothing)
			}
			p.does(c, granted)
			p.probe(c)
			if c < 3 {
				p.does(c, company)
			} else {
				p.does(c, alone)
			}
			p.unlock(c)
			p.does(c, released)
			p.words(s+4, s+uint32(c)+1)
		}
	}
}

// The greatest number has 0 behind it, for Probe and Unlock too.
func TestBehindTheGreatestNumberP10_3(t *testing.T) {
	p := newPair(t, 2, math.MaxUint32, 0, 0)
	p.calls(0)
	p.does(0, enq)
	p.words(0, math.MaxUint32)
	p.does(0, granted)
	p.probe(0)
	p.does(0, alone)
	p.calls(1)
	p.does(1, enq)
	p.words(1, math.MaxUint32)
	p.probe(0)
	p.does(0, company)
	p.does(1, nothing)
	p.unlock(0)
	p.does(0, released)
	p.words(1, 0)
	p.passes(1)
	p.words(1, 1)
}
