package slots_test

import (
	"math"
	"slices"
	"testing"

	"weighlock/api"
	"weighlock/locktest"
	"weighlock/plan"
	"weighlock/port"
	"weighlock/slots"
)

// What steps do.
var (
	nothing  = api.Did{}
	enq      = api.Did{Enq: true}
	granted  = api.Did{Event: api.Granted}
	released = api.Did{Event: api.Released}
)

// model is what the chapter says, in plain words: the address of each slot,
// each context's number, and which of the three steps it is at.
type model struct {
	*port.Port
	tail    int
	slots   []int
	numbers []uint32
	at      []int
}

func (m *model) Use(p *port.Port) { m.Port = p }

// slot is the address of the slot that is so far behind the context's own.
func (m *model) slot(t, behind int) int {
	own := int(m.numbers[t]) % len(m.slots)
	return m.slots[(own+behind)%len(m.slots)]
}

func (m *model) Step(state, t, as int) api.Did {
	switch {
	case state == api.Unlocking:
		m.Store(as, m.slot(t, 1), 1)
		m.at[t] = 1
		return released
	case m.at[t] == 1:
		m.numbers[t] = m.Add(as, m.tail, 1)
		m.at[t] = 2
		return enq
	case m.at[t] == 2:
		if m.Load(as, m.slot(t, 0)) != 0 {
			m.at[t] = 3
		}
	case m.at[t] == 3:
		m.Store(as, m.slot(t, 0), 0)
		return granted
	}
	return nothing
}

// newModel lays the words, the slots one by one.
func newModel(p *plan.Plan, homes []int, size int, start uint32) *model {
	n, values := len(homes), make([]uint32, size)
	values[start%uint32(size)] = 1
	m := &model{tail: p.Word(homes[0], start), numbers: make([]uint32, n), at: slices.Repeat([]int{1}, n)}
	for i, v := range values {
		m.slots = append(m.slots, p.Word(homes[i%n], v))
	}
	return m
}

// sizes are how many slots there may be.
var sizes = []int{1, 2, 4, 8, 16, 32, 64}

// array is the kind of locks with so many slots at least, or as many as there
// must be for their contexts.
func array(least int, start uint32) locktest.Kind {
	size := func(homes []int) int {
		n := max(least, len(homes))
		return sizes[slices.IndexFunc(sizes, func(s int) bool { return s >= n })]
	}
	return locktest.Kind{
		Lay: func(p *plan.Plan, homes []int) (locktest.Lock, api.Errno) {
			return slots.New(p, homes, size(homes), start)
		},
		Model: func(p *plan.Plan, homes []int) locktest.Model { return newModel(p, homes, size(homes), start) },
	}
}

// kinds are locks with just as many slots as their contexts need, with more,
// and with as many as there may be.
func kinds(start uint32) []locktest.Kind {
	return []locktest.Kind{array(1, start), array(8, start), array(64, start)}
}

// newPair is a lock with so many slots, of contexts with these homes.
func newPair(t *testing.T, size int, start uint32, homes ...int) *locktest.Pair {
	t.Helper()
	return locktest.New(t, max(len(homes), 2), array(size, start), homes...)
}

// passes brings a context that waits, and whose turn it is, to its end.
func passes(p *locktest.Pair, t int) {
	p.Helper()
	p.Does(t, nothing, granted)
	p.Unlock(t)
	p.Does(t, released)
}

func TestExampleP11_1(t *testing.T) {
	p := newPair(t, 2, 0, 0, 0)
	p.Calls(0)
	p.Calls(1)
	p.Does(0, enq)
	p.Does(1, enq)
	p.Does(0, nothing, granted)
	p.Does(1, nothing, nothing)
	p.Unlock(0)
	p.Does(1, nothing)
	p.Does(0, released)
	p.Does(1, nothing, granted)
}

// A whole way of a context, with all words behind each step.
func TestWholeWayP11_1(t *testing.T) {
	p := newPair(t, 4, 6, 3, 5, 1)
	p.Words(6, 0, 0, 1, 0)
	p.Calls(1)
	p.Words(6, 0, 0, 1, 0)
	p.Does(1, enq)
	p.Words(7, 0, 0, 1, 0)
	p.Does(1, nothing)
	p.Words(7, 0, 0, 1, 0)
	p.Does(1, granted)
	p.Words(7, 0, 0, 0, 0)
	p.Calls(0)
	p.Does(0, enq)
	p.Words(8, 0, 0, 0, 0)
	p.Does(0, nothing, nothing, nothing)
	p.Unlock(1)
	p.Words(8, 0, 0, 0, 0)
	p.Does(0, nothing)
	p.Does(1, released)
	p.Words(8, 0, 0, 0, 1)
	p.Does(0, nothing)
	p.Words(8, 0, 0, 0, 1)
	p.Does(0, granted)
	p.Words(8, 0, 0, 0, 0)
	p.Unlock(0)
	p.Does(0, released)
	p.Words(8, 1, 0, 0, 0)
	p.Calls(2)
	p.Does(2, enq)
	p.Words(9, 1, 0, 0, 0)
	p.Does(2, nothing, granted)
	p.Words(9, 0, 0, 0, 0)
	p.Unlock(2)
	p.Does(2, released)
	p.Words(9, 0, 1, 0, 0)
}

// With one slot, the one behind it is it itself.
func TestOneSlotP11_1(t *testing.T) {
	for _, s := range locktest.Starts() {
		p := newPair(t, 1, s, 7)
		for i := range uint32(8) {
			p.Words(s+i, 1)
			p.Calls(0)
			p.Does(0, enq)
			p.Words(s+i+1, 1)
			p.Does(0, nothing, granted)
			p.Words(s+i+1, 0)
			p.Unlock(0)
			p.Does(0, released)
		}
		p.Words(s+8, 1)
	}
}

func TestWaitsTillItsTurnP11_1(t *testing.T) {
	p := newPair(t, 4, 1<<32-1, 0, 1, 2)
	for c := range 3 {
		p.Calls(c)
		p.Does(c, enq)
	}
	for range 2000 {
		p.Does(2, nothing)
	}
	p.Does(0, nothing, granted)
	for range 2000 {
		p.Does(2, nothing)
	}
	p.Unlock(0)
	p.Does(0, released)
	p.Does(2, nothing)
	passes(p, 1)
	passes(p, 2)
	if got := p.Port.Accesses(2); got != 1+4001+3 {
		t.Errorf("%d accesses", got)
	}
}

// A step goes by what the words are, whoever stored it there: a slot that isn't
// 0 is one whose turn it is.
func TestGoesByTheWordsP11_1(t *testing.T) {
	for _, size := range sizes {
		for _, s := range locktest.Starts() {
			p := newPair(t, size, 0, 1)
			own := int(s%uint32(size)) + 1
			behind := int((s+1)%uint32(size)) + 1
			for _, v := range []uint32{1, 2, 3, 1 << 8, 1 << 16, 1 << 31, 1<<32 - 2, 1<<32 - 1} {
				p.Sets(0, s)
				p.Sets(1, 0)
				p.Calls(0)
				p.Does(0, enq)
				p.Sets(own, 0)
				p.Does(0, nothing, nothing)
				p.Sets(own, v)
				p.Does(0, nothing)
				p.Sets(own, v+1)
				p.Does(0, granted)
				p.Sets(behind, v)
				p.Unlock(0)
				p.Does(0, released)
				if w := p.Port.Words()[p.First:]; w[0] != s+1 || w[behind] != 1 || own != behind && w[own] != 0 {
					t.Fatalf("%d slots, number %d: %v", size, s, w)
				}
				p.Sets(behind, 0)
			}
		}
	}
}

func TestWhereTheWordsLieP11_1(t *testing.T) {
	for _, before := range []int{0, 1, 5, 64} {
		for _, homes := range [][]int{{0}, {7}, {7, 0}, {3, 1, 4}, {1, 2, 3, 4, 5, 6, 7}, locktest.Homes(33, 2), locktest.Homes(64, 7)} {
			for _, size := range sizes {
				if size >= len(homes) {
					lies(t, before, homes, size)
				}
			}
		}
	}
}

// lies asks where the words of locks lie that are laid behind some others.
func lies(t *testing.T, before int, homes []int, size int) {
	t.Helper()
	own := []int{homes[0]}
	for i := range size {
		own = append(own, homes[i%len(homes)])
	}
	for _, s := range locktest.Starts() {
		values := make([]uint32, len(own))
		values[0], values[1+int(s%uint32(size))] = s, 1
		locktest.Lies(t, array(size, s), before, homes, own, values)
	}
}

// All numbers of contexts go with all numbers of slots that aren't less.
func TestHowManySlotsP11_1(t *testing.T) {
	for n := 1; n <= api.MaxThreads; n++ {
		for size := -70; size <= 140; size++ {
			l, e := slots.New(plan.New(1), make([]int, n), size, 5)
			if slices.Contains(sizes, size) && size >= n {
				if l == nil || e != api.OK {
					t.Fatalf("%d contexts, %d slots: %d", n, size, e)
				}
			} else if l != nil || e != api.ErrConfig {
				t.Fatalf("%d contexts, %d slots: %v, %d", n, size, l, e)
			}
		}
	}
}

func TestHomesFromNoughtToSevenP11_1(t *testing.T) {
	for h := range api.MaxNodes {
		newPair(t, 1, 0, h)
		newPair(t, 4, 0, 7-h, h, 0)
	}
}

// noSizes are numbers of slots that may not be, whatever the contexts.
var noSizes = []int{0, -1, -2, -64, 3, 5, 6, 7, 12, 24, 48, 63, 65, 96, 127, 128, 129, 256, 4096, 1 << 31, 1 << 32, 1<<32 + 64, 1<<32 + 1, 1 << 62, math.MinInt64, math.MaxInt64, math.MinInt32, math.MaxInt32}

// asked is a New that must refuse.
func asked(homes []int, size int) func(p *plan.Plan) (bool, api.Errno) {
	return func(p *plan.Plan) (bool, api.Errno) {
		l, e := slots.New(p, homes, size, 6)
		return l == nil, e
	}
}

// Homes are asked ahead of slots.
func TestWrongHomesP11_1(t *testing.T) {
	for _, homes := range locktest.NoHomes() {
		for _, size := range append([]int{1, 2, 64}, noSizes...) {
			locktest.Refuses(t, api.ErrArg, asked(homes, size))
		}
	}
}

func TestWrongSlotsP11_1(t *testing.T) {
	for _, n := range []int{1, 2, 3, 4, 5, 63, 64} {
		for _, size := range noSizes {
			locktest.Refuses(t, api.ErrConfig, asked(locktest.Homes(n, 0), size))
		}
	}
}

func TestFewerSlotsThanContextsP11_1(t *testing.T) {
	for _, size := range sizes {
		for n := size + 1; n <= api.MaxThreads; n++ {
			locktest.Refuses(t, api.ErrConfig, asked(locktest.Homes(n, 0), size))
		}
	}
}

func TestAnyCallsP11_1(t *testing.T) {
	for _, s := range locktest.Starts() {
		for _, k := range kinds(s) {
			locktest.AnyCalls(t, k, 400)
		}
	}
}

func TestTwoLocksP11_1(t *testing.T) {
	for _, s := range locktest.Starts() {
		for _, k := range kinds(s) {
			locktest.RowInOnePlan(t, k, 600)
			locktest.PortsOfOnePlan(t, k, 300)
		}
	}
}

func TestUseOfOtherPortsP11_1(t *testing.T) {
	for _, k := range kinds(1<<32 - 5) {
		locktest.UseOfOtherPorts(t, k, 1000)
	}
}

// Whoever got a number first is granted the lock first, whoever called first
// and whoever looks first.
func TestOrderIsThatOfEnqsP11_1(t *testing.T) {
	for _, s := range locktest.Starts() {
		for _, n := range []int{5, 16} {
			for _, k := range kinds(s) {
				locktest.GrantsInOrderOfEnqs(t, k, n, 1500)
			}
		}
	}
}

func TestByTurnsAllComeToTheirEndsP11_1(t *testing.T) {
	for _, n := range []int{1, 2, 5, 64} {
		for _, k := range kinds(1<<32 - 3) {
			locktest.ByTurns(t, k, n, 2)
		}
	}
}

func TestHowManyContextsP11_1(t *testing.T) {
	for _, k := range kinds(1<<32 - 2) {
		locktest.HowManyContexts(t, k)
	}
}

func TestEachCallInEachStateP11_1(t *testing.T) { locktest.EachCallInEachState(t, array(1, 5)) }

// Whatever it does and whether it is there: a Probe is a wrong argument.
func TestProbeIsNotTakenP11_1(t *testing.T) {
	for _, state := range locktest.States(false) {
		p := newPair(t, 4, 9, 1, 2)
		p.Bring(1, state)
		for _, c := range append(locktest.NoContexts(2), 0, 1) {
			if e := p.Probe(c); e != api.ErrArg {
				t.Errorf("Probe(%d) in state %d = %d", c, state, e)
			}
		}
	}
}

func TestDeadlinesAreNotTakenP11_1(t *testing.T) { locktest.NoDeadlines(t, array(1, 5)) }

func TestNoSuchContextP11_1(t *testing.T) { locktest.NoSuchContext(t, array(1, 5)) }

func TestStepOfIdleAndHoldingP11_1(t *testing.T) {
	locktest.StepOfIdleAndHolding(t, array(1, 1<<32-1))
}

func TestAnyTickP11_1(t *testing.T) { locktest.AnyTick(t, array(4, 0)) }

func TestHomesStayTheAskersP11_1(t *testing.T) { locktest.HomesStayTheAskers(t, array(4, 1)) }

// Any thread of the port does a context's steps: the accesses are its own.
func TestStepsByOtherThreadsP11_1(t *testing.T) {
	p := locktest.New(t, 5, array(2, 3), 1, 2)
	p.Calls(0)
	for _, as := range []int{4, 3, 2} {
		p.Step(0, as, 0)
	}
	p.Unlock(0)
	p.Step(0, 1, 0)
	for as, want := range [][2]int{{0, 0}, {1, 1}, {1, 1}, {1, 0}, {1, 1}} {
		if got := [2]int{p.Port.Accesses(as), p.Port.Writes(as)}; got != want {
			t.Errorf("accesses and writes of %d: %v, want %v", as, got, want)
		}
	}
}

func TestOneAccessAStepP11_2(t *testing.T) {
	for _, k := range kinds(1<<32 - 2) {
		locktest.OneAccessAStep(t, k, 2000)
	}
}

func TestNoAccessButAStepsP11_2(t *testing.T) { locktest.NoAccessButAStep(t, array(8, 8)) }

// set is which slots aren't 0, and what they are.
func set(p *locktest.Pair, size int) []uint32 {
	return slices.DeleteFunc(p.Port.Words()[p.First+1:][:size], func(v uint32) bool { return v == 0 })
}

// A slot is 0 or 1, and at most one is 1, behind any call and step.
func TestAtMostOneSlotIsSetP11_3(t *testing.T) {
	r := locktest.Numbers(113)
	for _, n := range []int{1, 2, 3, 4, 7, 16, 64} {
		for _, size := range sizes {
			if size < n {
				continue
			}
			for _, s := range []uint32{0, 3, 1<<32 - 9, 1<<32 - 1} {
				p := newPair(t, size, s, locktest.Homes(n, 1)...)
				most := 0
				for range 300 {
					p.Any(&r)
					w := set(p, size)
					most = max(most, len(w))
					if len(w) > 1 || len(w) == 1 && w[0] != 1 {
						t.Fatalf("%d slots: these are set: %v", size, w)
					}
				}
				if most != 1 {
					t.Fatalf("%d slots: none was ever set", size)
				}
			}
		}
	}
}

// The turn is one context's: it has the lock, or its slot alone is 1.
func TestThreeThreadsFourSlotsP11_3(t *testing.T) {
	p := newPair(t, 4, 1<<32-2, 0, 1, 2)
	turns := [][]uint32{{0, 0, 1, 0}, {0, 0, 0, 1}, {1, 0, 0, 0}, {0, 1, 0, 0}, {0, 0, 1, 0}}
	for i, w := range turns {
		c, tail := i%3, uint32(1<<32-2+i)
		p.Words(append([]uint32{tail}, w...)...)
		p.Calls(c)
		p.Does(c, enq)
		p.Words(append([]uint32{tail + 1}, w...)...)
		p.Does(c, nothing, granted)
		p.Words(tail+1, 0, 0, 0, 0)
		p.Unlock(c)
		p.Does(c, released)
	}
}

// turned is a lock's words as they would be from the start 0.
func turned(p *locktest.Pair, size int, start uint32) []uint32 {
	w := p.Port.Words()[p.First:][:1+size]
	base := []uint32{w[0] - start}
	for i := range uint32(size) {
		base = append(base, w[1+(start+i)%uint32(size)])
	}
	return base
}

// The same calls and steps tell the same whatever the start is, and the words
// are just as far from it.
func TestNumbersGoRoundP11_3(t *testing.T) {
	for seed := range locktest.Numbers(8) {
		for _, s := range locktest.Starts() {
			for _, size := range []int{8, 64} {
				r, q := seed, seed
				p, base := newPair(t, size, s, 0, 1, 2, 3, 4), newPair(t, size, 0, 0, 1, 2, 3, 4)
				for range 300 {
					p.Any(&r)
					base.Any(&q)
					if w, v := turned(p, size, s), turned(base, size, 0); !slices.Equal(w, v) {
						t.Fatalf("from %d: %v, from 0: %v", s, w, v)
					}
					for c := range 5 {
						if got, want := p.Lock.State(c), base.Lock.State(c); got != want {
							t.Fatalf("from %d: State(%d) = %d, from 0: %d", s, c, got, want)
						}
					}
				}
			}
		}
	}
}

// Tail goes round while contexts wait, and each is granted the lock in its turn.
func TestGoingRoundWhileTheyWaitP11_3(t *testing.T) {
	for back := range uint32(6) {
		for _, size := range []int{4, 8, 64} {
			s := -back
			p := newPair(t, size, s, 3, 2, 1, 0)
			for c := range 4 {
				p.Calls(c)
				p.Does(c, enq)
			}
			p.Words(s + 4)
			for c := range 4 {
				for d := c + 1; d < 4; d++ {
					p.Does(d, nothing)
				}
				passes(p, c)
				behind := int((s+uint32(c)+1)%uint32(size)) + 1
				if w := p.Port.Words()[p.First:]; w[0] != s+4 || w[behind] != 1 {
					t.Fatalf("%d slots, from %d: %v", size, s, w)
				}
			}
		}
	}
}
