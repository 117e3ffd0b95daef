package flat_test

import (
	"math"
	"slices"
	"testing"

	"weighlock/api"
	"weighlock/flat"
	"weighlock/locktest"
	"weighlock/plan"
	"weighlock/port"
)

// What steps do.
var (
	nothing  = api.Did{}
	enq      = api.Did{Enq: true}
	granted  = api.Did{Event: api.Granted}
	released = api.Did{Event: api.Released}
	alone    = api.Did{Event: api.Alone}
	company  = api.Did{Event: api.Company}
)

// model is what the chapter says, in plain words: each context's number, from
// its Enq on.
type model struct {
	*port.Port
	next, owner int
	numbers     []uint32
	drawn       []bool
}

func (m *model) Use(p *port.Port) { m.Port = p }

func (m *model) Step(state, t, as int) api.Did {
	switch {
	case state == api.Locking && !m.drawn[t]:
		m.numbers[t], m.drawn[t] = m.Add(as, m.next, 1), true
		return enq
	case state == api.Locking && m.Load(as, m.owner) == m.numbers[t]:
		return granted
	case state == api.Unlocking:
		m.Store(as, m.owner, m.numbers[t]+1)
		m.drawn[t] = false
		return released
	case state == api.Probing && m.Load(as, m.next) == m.numbers[t]+1:
		return alone
	case state == api.Probing:
		return company
	}
	return nothing
}

// ticket is the kind of locks whose numbers begin there.
func ticket(start uint32) locktest.Kind {
	return locktest.Kind{
		Probed: true,
		Lay:    func(p *plan.Plan, homes []int) (locktest.Lock, api.Errno) { return flat.New(p, homes, start) },
		Model: func(p *plan.Plan, homes []int) locktest.Model {
			n := len(homes)
			return &model{nil, p.Word(homes[0], start), p.Word(homes[0], start), make([]uint32, n), make([]bool, n)}
		},
	}
}

// newPair is one of them, of contexts with these homes.
func newPair(t *testing.T, threads int, start uint32, homes ...int) *locktest.Pair {
	t.Helper()
	return locktest.New(t, threads, ticket(start), homes...)
}

// passes brings a context that waits, and whose turn it is, to its end.
func passes(p *locktest.Pair, t int) {
	p.Helper()
	p.Does(t, granted)
	p.Unlock(t)
	p.Does(t, released)
}

// near are values that look like a number where only some bits of it are held
// against it, or where it is only asked which one is ahead.
func near(number uint32) []uint32 {
	values := []uint32{0, 1, 1<<32 - 1}
	for bit := range 32 {
		values = append(values, number^1<<bit, number+1<<bit, number-1<<bit)
	}
	return values
}

// A step goes by what the words are, whoever stored it there.
func TestGoesByTheWordsP10_1(t *testing.T) {
	for _, s := range locktest.Starts() {
		p := newPair(t, 2, 5, 1, 1)
		p.Sets(0, s)
		p.Calls(1)
		p.Does(1, enq)
		for _, v := range near(s) {
			if p.Sets(1, v); v != s {
				p.Does(1, nothing)
			}
		}
		p.Sets(1, s)
		p.Does(1, granted)
		for _, v := range near(s + 1) {
			if p.Sets(0, v); v != s+1 {
				p.Probe(1)
				p.Does(1, company)
			}
		}
		p.Sets(0, s+1)
		p.Probe(1)
		p.Does(1, alone)
		p.Sets(1, s+40)
		p.Unlock(1)
		p.Does(1, released)
		p.Words(s+1, s+1)
	}
}

func TestExampleP10_1(t *testing.T) {
	p := newPair(t, 1, 0, 0)
	p.Calls(0)
	p.Does(0, enq)
	p.Does(0, granted)
}

// A whole way of a context, with all words behind each step, also where
// numbers go round.
func TestWholeWayP10_1(t *testing.T) {
	for _, s := range locktest.Starts() {
		p := newPair(t, 2, s, 3, 5)
		p.Words(s, s)
		p.Calls(1)
		p.Words(s, s)
		p.Does(1, enq)
		p.Words(s+1, s)
		p.Does(1, granted)
		p.Words(s+1, s)
		p.Probe(1)
		p.Does(1, alone)
		p.Calls(0)
		p.Probe(1)
		p.Does(1, alone)
		p.Does(0, enq)
		p.Words(s+2, s)
		p.Probe(1)
		p.Does(1, company)
		p.Probe(1)
		p.Does(1, company)
		p.Does(0, nothing)
		p.Unlock(1)
		p.Does(0, nothing)
		p.Words(s+2, s)
		p.Does(1, released)
		p.Words(s+2, s+1)
		p.Does(0, granted)
		p.Probe(0)
		p.Does(0, alone)
		p.Unlock(0)
		p.Does(0, released)
		p.Words(s+2, s+2)
	}
}

// Nobody is granted the lock with a number of a call before this one.
func TestEachCallDrawsANumberP10_1(t *testing.T) {
	p := newPair(t, 1, 1<<32-3, 0)
	for i := range uint32(8) {
		p.Calls(0)
		p.Does(0, enq)
		p.Words(1<<32-3+i+1, 1<<32-3+i)
		passes(p, 0)
	}
}

func TestWaitsTillItsTurnP10_1(t *testing.T) {
	p := newPair(t, 3, 1<<32-1, 0, 1, 2)
	for t := range 3 {
		p.Calls(t)
		p.Does(t, enq)
	}
	for range 2000 {
		p.Does(2, nothing)
	}
	p.Does(0, granted)
	for range 2000 {
		p.Does(2, nothing)
	}
	p.Unlock(0)
	p.Does(0, released)
	p.Does(2, nothing)
	passes(p, 1)
	passes(p, 2)
	if got := p.Port.Accesses(2); got != 1+4000+1+2 {
		t.Errorf("%d accesses", got)
	}
}

func TestWhereTheWordsLieP10_1(t *testing.T) {
	for _, before := range []int{0, 1, 5, 64} {
		for h := range api.MaxNodes {
			for _, s := range locktest.Starts() {
				locktest.Lies(t, ticket(s), before, []int{h, 7 - h, 7 - h}, []int{h, h}, []uint32{s, s})
			}
		}
	}
}

// next lies in front of owner.
func TestNextIsTheFirstWordP10_1(t *testing.T) {
	p := plan.New(1)
	p.Row(3, 1, 8)
	l, _ := flat.New(p, []int{0}, 20)
	x, _ := p.Port()
	l.Use(x)
	for i, want := range [][]uint32{{8, 8, 8, 21, 20}, {8, 8, 8, 21, 20}, {8, 8, 8, 21, 21}} {
		switch i {
		case 0:
			l.Lock(0, -1)
		case 2:
			l.Unlock(0)
		}
		l.Step(0, 0, 0)
		if w := x.Words(); !slices.Equal(w, want) {
			t.Errorf("step %d: words %v, want %v", i, w, want)
		}
	}
}

func TestHomesFromNoughtToSevenP10_1(t *testing.T) {
	for h := range api.MaxNodes {
		newPair(t, 1, 0, h)
		newPair(t, 3, 0, 7-h, h, 0)
	}
}

// Any thread of the port does a context's steps: the accesses are its own.
func TestStepsByOtherThreadsP10_1(t *testing.T) {
	p := newPair(t, 5, 3, 1, 2)
	p.Calls(0)
	p.Step(0, 4, 0)
	p.Step(0, 3, 0)
	p.Probe(0)
	p.Step(0, 2, 0)
	p.Unlock(0)
	p.Step(0, 1, 0)
	for t, want := range [][2]int{{0, 0}, {1, 1}, {1, 0}, {1, 0}, {1, 1}} {
		if got := [2]int{p.Port.Accesses(t), p.Port.Writes(t)}; got != want {
			p.Fatalf("accesses and writes of %d: %v, want %v", t, got, want)
		}
	}
}

func TestAnyCallsP10_1(t *testing.T) {
	for _, s := range locktest.Starts() {
		locktest.AnyCalls(t, ticket(s), 400)
	}
}

func TestTwoLocksP10_1(t *testing.T) {
	for _, s := range locktest.Starts() {
		locktest.RowInOnePlan(t, ticket(s), 1500)
		locktest.PortsOfOnePlan(t, ticket(s), 500)
	}
}

func TestUseOfOtherPortsP10_1(t *testing.T) {
	locktest.UseOfOtherPorts(t, ticket(1<<32-5), 2000)
}

// Whoever got a number first is granted the lock first, whoever called first
// and whoever looks first.
func TestOrderIsThatOfEnqsP10_1(t *testing.T) {
	for _, s := range locktest.Starts() {
		locktest.GrantsInOrderOfEnqs(t, ticket(s), 16, 2000)
	}
}

func TestByTurnsAllComeToTheirEndsP10_1(t *testing.T) {
	for _, n := range []int{1, 2, 5, 64} {
		locktest.ByTurns(t, ticket(1<<32-3), n, 2)
	}
}

func TestHowManyContextsP10_1(t *testing.T) { locktest.HowManyContexts(t, ticket(1<<32-2)) }

func TestEachCallInEachStateP10_1(t *testing.T) { locktest.EachCallInEachState(t, ticket(5)) }

func TestDeadlinesAreNotTakenP10_1(t *testing.T) { locktest.NoDeadlines(t, ticket(5)) }

func TestNoSuchContextP10_1(t *testing.T) { locktest.NoSuchContext(t, ticket(5)) }

func TestStepOfIdleAndHoldingP10_1(t *testing.T) { locktest.StepOfIdleAndHolding(t, ticket(1<<32-1)) }

func TestAnyTickP10_1(t *testing.T) { locktest.AnyTick(t, ticket(0)) }

func TestHomesStayTheAskersP10_1(t *testing.T) { locktest.HomesStayTheAskers(t, ticket(1)) }

func TestWrongHomesP10_1(t *testing.T) {
	for _, homes := range locktest.NoHomes() {
		locktest.Refuses(t, api.ErrArg, func(p *plan.Plan) (bool, api.Errno) {
			l, e := flat.New(p, homes, 6)
			return l == nil, e
		})
	}
}

func TestOneAccessAStepP10_2(t *testing.T) {
	for _, s := range []uint32{0, 1<<32 - 2} {
		locktest.OneAccessAStep(t, ticket(s), 2000)
	}
}

func TestNoAccessButAStepsP10_2(t *testing.T) { locktest.NoAccessButAStep(t, ticket(8)) }

// The same calls and steps tell the same whatever the start is, and the words
// are just as far from it.
func TestNumbersGoRoundP10_3(t *testing.T) {
	for seed := range locktest.Numbers(20) {
		for _, s := range locktest.Starts() {
			r, q := seed, seed
			p, base := newPair(t, 6, s, 0, 1, 2, 3, 4), newPair(t, 6, 0, 0, 1, 2, 3, 4)
			for range 300 {
				p.Any(&r)
				base.Any(&q)
				w, v := p.Port.Words(), base.Port.Words()
				if w[1]-s != v[1] || w[2]-s != v[2] {
					t.Fatalf("from %d: %v, from 0: %v", s, w, v)
				}
				for c := range 5 {
					if got, want := p.Lock.State(c), base.Lock.State(c); got != want {
						t.Fatalf("from %d: State(%d) = %d, from 0: %d", s, c, got, want)
					}
				}
			}
		}
	}
}

// Numbers and owner go round while contexts wait.
func TestGoingRoundWhileTheyWaitP10_3(t *testing.T) {
	for back := range uint32(6) {
		s := -back
		p := newPair(t, 4, s, 3, 2, 1, 0)
		for c := range 4 {
			p.Calls(c)
			p.Does(c, enq)
		}
		p.Words(s+4, s)
		for c := range 4 {
			for d := c + 1; d < 4; d++ {
				p.Does(d, nothing)
			}
			p.Does(c, granted)
			p.Probe(c)
			if c < 3 {
				p.Does(c, company)
			} else {
				p.Does(c, alone)
			}
			p.Unlock(c)
			p.Does(c, released)
			p.Words(s+4, s+uint32(c)+1)
		}
	}
}

// The greatest number has 0 behind it, for Probe and Unlock too.
func TestBehindTheGreatestNumberP10_3(t *testing.T) {
	p := newPair(t, 2, math.MaxUint32, 0, 0)
	p.Calls(0)
	p.Does(0, enq)
	p.Words(0, math.MaxUint32)
	p.Does(0, granted)
	p.Probe(0)
	p.Does(0, alone)
	p.Calls(1)
	p.Does(1, enq)
	p.Words(1, math.MaxUint32)
	p.Probe(0)
	p.Does(0, company)
	p.Does(1, nothing)
	p.Unlock(0)
	p.Does(0, released)
	p.Words(1, 0)
	passes(p, 1)
	p.Words(1, 1)
}
