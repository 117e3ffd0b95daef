package mcs_test

import (
	"slices"
	"testing"

	"weighlock/api"
	"weighlock/locktest"
	"weighlock/mcs"
	"weighlock/plan"
	"weighlock/port"
)

// What steps do. first: it got its place, and nobody was ahead.
var (
	nothing  = api.Did{}
	enq      = api.Did{Enq: true}
	first    = api.Did{Event: api.Granted, Enq: true}
	granted  = api.Did{Event: api.Granted}
	released = api.Did{Event: api.Released}
	alone    = api.Did{Event: api.Alone}
	company  = api.Did{Event: api.Company}
)

// pair is the addresses of a context's words.
type pair struct{ next, locked int }

// model is what the chapter says, in plain words: where the words of each
// context are, the one ahead of it and the one behind, and which of the steps
// of its call it is at.
type model struct {
	*port.Port
	tail          int
	pairs         []pair
	ahead, behind []uint32
	at            []int
}

func (m *model) Use(p *port.Port) { m.Port = p }

// of is the words of a number: nowhere, if it is nobody's.
func (m *model) of(number uint32) pair {
	if int(number) > len(m.pairs) {
		return pair{next: -1, locked: -1}
	}
	return m.pairs[number-1]
}

func (m *model) Step(state, t, as int) api.Did {
	own := uint32(t) + 1
	var did api.Did
	switch {
	case state == api.Locking:
		did = m.lock(t, as, own)
	case state == api.Unlocking:
		did = m.unlock(t, as, own)
	case m.Load(as, m.of(own).next) == 0:
		return alone
	default:
		return company
	}
	if did.Event != api.None {
		m.at[t] = 1
	}
	return did
}

// lock is a step of a Lock.
func (m *model) lock(t, as int, own uint32) api.Did {
	switch m.at[t] {
	case 1:
		m.Store(as, m.of(own).next, 0)
	case 2:
		m.ahead[t] = m.Swap(as, m.tail, own)
		if m.ahead[t] == 0 {
			return first
		}
		m.at[t] = 3
		return enq
	case 3:
		m.Store(as, m.of(own).locked, 1)
	case 4:
		m.Store(as, m.of(m.ahead[t]).next, own)
	case 5:
		if m.Load(as, m.of(own).locked) == 0 {
			return granted
		}
		return nothing
	}
	m.at[t]++
	return nothing
}

// unlock is a step of an Unlock.
func (m *model) unlock(t, as int, own uint32) api.Did {
	switch m.at[t] {
	case 1, 3:
		m.behind[t] = m.Load(as, m.of(own).next)
		if m.behind[t] != 0 {
			m.at[t] = 4
		} else if m.at[t] == 1 {
			m.at[t] = 2
		}
	case 2:
		if m.Cas(as, m.tail, own, 0) {
			return released
		}
		m.at[t] = 3
	case 4:
		m.Store(as, m.of(m.behind[t]).locked, 0)
		return released
	}
	return nothing
}

// newModel lays the words, one by one.
func newModel(p *plan.Plan, homes []int) locktest.Model {
	n := len(homes)
	m := &model{tail: p.Word(homes[0], 0), pairs: make([]pair, n), ahead: make([]uint32, n), behind: make([]uint32, n), at: slices.Repeat([]int{1}, n)}
	for i, h := range homes {
		m.pairs[i].next = p.Word(h, 0)
		m.pairs[i].locked = p.Word(h, 0)
	}
	return m
}

// queue is the kind of these locks.
func queue() locktest.Kind {
	return locktest.Kind{
		Probed: true,
		Lay:    func(p *plan.Plan, homes []int) (locktest.Lock, api.Errno) { return mcs.New(p, homes) },
		Model:  newModel,
	}
}

// newPair is one of them, of contexts with these homes.
func newPair(t *testing.T, homes ...int) *locktest.Pair {
	t.Helper()
	return locktest.New(t, max(len(homes), 2), queue(), homes...)
}

// holds brings an idle context, with nobody ahead of it, to its Grant.
func holds(p *locktest.Pair, t int) {
	p.Helper()
	p.Calls(t)
	p.Does(t, nothing, first)
}

// swaps brings an idle context to its Enq behind another one.
func swaps(p *locktest.Pair, t int) {
	p.Helper()
	p.Calls(t)
	p.Does(t, nothing, enq)
}

// stores brings one who has swapped to where the one ahead knows of it.
func stores(p *locktest.Pair, t int) {
	p.Helper()
	p.Does(t, nothing, nothing)
}

// waits brings an idle context to where the one ahead knows of it, and it looks.
func waits(p *locktest.Pair, t int) {
	p.Helper()
	swaps(p, t)
	stores(p, t)
	p.Does(t, nothing)
}

// hands brings one who has the lock, and knows of one behind, to its end.
func hands(p *locktest.Pair, t int) {
	p.Helper()
	p.Unlock(t)
	p.Does(t, nothing, released)
}

// leaves brings one who has the lock, and is the last one, to its end: these
// are two steps as well.
func leaves(p *locktest.Pair, t int) {
	p.Helper()
	hands(p, t)
	p.Words(0)
}

// probes asks a context that has the lock whether anybody is behind.
func probes(p *locktest.Pair, t int, want api.Did) {
	p.Helper()
	p.Probe(t)
	p.Does(t, want)
}

func TestExampleP13_1(t *testing.T) {
	p := newPair(t, 0)
	p.Calls(0)
	p.Does(0, nothing, first)
	p.Unlock(0)
	p.Does(0, nothing, released)
}

// A whole way of a context that finds nobody, with all words behind each step.
func TestWholeWayAloneP13_1(t *testing.T) {
	p := newPair(t, 3, 5, 1)
	p.Words(0, 0, 0, 0, 0, 0, 0)
	p.Calls(1)
	p.Words(0, 0, 0, 0, 0, 0, 0)
	p.Does(1, nothing)
	p.Words(0, 0, 0, 0, 0, 0, 0)
	p.Does(1, first)
	p.Words(2, 0, 0, 0, 0, 0, 0)
	p.Probe(1)
	p.Words(2, 0, 0, 0, 0, 0, 0)
	p.Does(1, alone)
	p.Words(2, 0, 0, 0, 0, 0, 0)
	p.Unlock(1)
	p.Words(2, 0, 0, 0, 0, 0, 0)
	p.Does(1, nothing)
	p.Words(2, 0, 0, 0, 0, 0, 0)
	p.Does(1, released)
	p.Words(0, 0, 0, 0, 0, 0, 0)
}

// A whole way of one that finds somebody ahead, and of that one, who knows of
// it when it unlocks, with all words behind each step.
func TestWholeWayBehindAnotherP13_1(t *testing.T) {
	p := newPair(t, 3, 5, 1)
	holds(p, 2)
	p.Words(3, 0, 0, 0, 0, 0, 0)
	p.Calls(0)
	p.Does(0, nothing)
	p.Words(3, 0, 0, 0, 0, 0, 0)
	p.Does(0, enq)
	p.Words(1, 0, 0, 0, 0, 0, 0)
	p.Does(0, nothing)
	p.Words(1, 0, 1, 0, 0, 0, 0)
	p.Does(0, nothing)
	p.Words(1, 0, 1, 0, 0, 1, 0)
	p.Does(0, nothing, nothing)
	p.Words(1, 0, 1, 0, 0, 1, 0)
	p.Unlock(2)
	p.Does(2, nothing)
	p.Does(0, nothing)
	p.Words(1, 0, 1, 0, 0, 1, 0)
	p.Does(2, released)
	p.Words(1, 0, 0, 0, 0, 1, 0)
	p.Does(0, granted)
	p.Words(1, 0, 0, 0, 0, 1, 0)
	p.Calls(2)
	p.Does(2, nothing)
	p.Words(1, 0, 0, 0, 0, 0, 0)
	p.Does(2, enq, nothing)
	p.Words(3, 0, 0, 0, 0, 0, 1)
	p.Does(2, nothing)
	p.Words(3, 3, 0, 0, 0, 0, 1)
	hands(p, 0)
	p.Words(3, 3, 0, 0, 0, 0, 0)
	p.Does(2, granted)
	leaves(p, 2)
	p.Words(0, 3, 0, 0, 0, 0, 0)
}

// It sees nobody, and can't take itself off the tail: somebody has swapped, and
// stores at last.
func TestUnlockWaitsForAStoreP13_1(t *testing.T) {
	p := newPair(t, 4, 2)
	holds(p, 0)
	swaps(p, 1)
	p.Unlock(0)
	for range 2000 {
		p.Does(0, nothing)
	}
	p.Words(2, 0, 0, 0, 0)
	p.Does(1, nothing)
	p.Words(2, 0, 0, 0, 1)
	for range 2000 {
		p.Does(0, nothing)
	}
	p.Words(2, 0, 0, 0, 1)
	p.Does(1, nothing)
	p.Words(2, 2, 0, 0, 1)
	p.Does(1, nothing)
	p.Does(0, nothing)
	p.Does(1, nothing)
	p.Words(2, 2, 0, 0, 1)
	p.Does(0, released)
	p.Words(2, 2, 0, 0, 0)
	p.Does(1, granted)
	leaves(p, 1)
	if got := [2]int{p.Port.Accesses(0), p.Port.Writes(0)}; got != [2]int{2 + 4002, 3 + 1} {
		t.Errorf("accesses and writes: %v", got)
	}
}

// Somebody swaps, or swaps and stores, between its load and its try to leave.
func TestUnlockIsOvertakenByASwapP13_1(t *testing.T) {
	for _, stored := range []bool{false, true} {
		p := newPair(t, 4, 2)
		holds(p, 0)
		p.Unlock(0)
		p.Does(0, nothing)
		swaps(p, 1)
		if stored {
			stores(p, 1)
		}
		p.Does(0, nothing)
		if !stored {
			p.Does(0, nothing, nothing)
			stores(p, 1)
		}
		p.Words(2, 2, 0, 0, 1)
		p.Does(0, nothing, released)
		p.Words(2, 2, 0, 0, 0)
		p.Does(1, granted)
	}
}

// Who left, or handed on, calls again as if it never had; what its next was is
// gone behind its first step.
func TestCallsAgainP13_1(t *testing.T) {
	p := newPair(t, 0, 1)
	for range 10 {
		holds(p, 0)
		waits(p, 1)
		hands(p, 0)
		p.Words(2, 2, 0, 0, 0)
		p.Does(1, granted)
		leaves(p, 1)
		p.Calls(0)
		p.Words(0, 2, 0, 0, 0)
		p.Does(0, nothing)
		p.Words(0, 0, 0, 0, 0)
		p.Does(0, first)
		probes(p, 0, alone)
		leaves(p, 0)
	}
}

// Nobody is behind one who has swapped when all others are at their ends: it is
// granted the lock at once, however often the others had it.
func TestTailIsNobodysBehindAllP13_1(t *testing.T) {
	r := locktest.Numbers(13)
	for _, n := range []int{1, 2, 5, 64} {
		p := newPair(t, locktest.Homes(n, 4)...)
		for range 200 {
			c := r.Below(n)
			holds(p, c)
			leaves(p, c)
		}
		p.Words(make([]uint32, 1+2*n)...)
	}
}

func TestWaitsTillItsTurnP13_1(t *testing.T) {
	p := newPair(t, 0, 1, 2)
	holds(p, 0)
	waits(p, 1)
	waits(p, 2)
	for range 2000 {
		p.Does(2, nothing)
	}
	hands(p, 0)
	for range 2000 {
		p.Does(2, nothing)
	}
	p.Does(1, granted)
	p.Does(2, nothing)
	hands(p, 1)
	p.Does(2, granted)
	leaves(p, 2)
	if got := p.Port.Accesses(2); got != 4+4002+1+2 {
		t.Errorf("%d accesses", got)
	}
}

// The order is that of the swaps, whoever called first, and whoever stores or
// looks first.
func TestOrderIsThatOfSwapsP13_1(t *testing.T) {
	p := newPair(t, 0, 1, 2, 3)
	for c := range 4 {
		p.Calls(c)
		p.Does(c, nothing)
	}
	p.Does(3, first)
	p.Does(1, enq)
	p.Does(0, enq)
	p.Does(2, enq)
	p.Words(3, 0, 0, 0, 0, 0, 0, 0, 0)
	for _, c := range []int{2, 0, 1} {
		p.Does(c, nothing)
	}
	p.Words(3, 0, 1, 0, 1, 0, 1, 0, 0)
	for _, c := range []int{2, 0, 1} {
		p.Does(c, nothing, nothing)
	}
	p.Words(3, 3, 1, 1, 1, 0, 1, 2, 0)
	for i, c := range []int{3, 1, 0} {
		hands(p, c)
		behind := []int{1, 0, 2}[i:]
		for _, d := range behind[1:] {
			p.Does(d, nothing)
		}
		p.Does(behind[0], granted)
	}
	leaves(p, 2)
	p.Words(0, 3, 0, 1, 0, 0, 0, 2, 0)
}

// Somebody is behind from its store on, not from its swap on; Alone may be
// wrong.
func TestProbeP13_1(t *testing.T) {
	p := newPair(t, 4, 4, 4)
	holds(p, 1)
	probes(p, 1, alone)
	probes(p, 1, alone)
	p.Calls(2)
	p.Does(2, nothing)
	probes(p, 1, alone)
	p.Does(2, enq)
	probes(p, 1, alone)
	p.Does(2, nothing)
	probes(p, 1, alone)
	p.Probe(1)
	p.Does(2, nothing)
	p.Does(1, company)
	probes(p, 1, company)
	p.Does(2, nothing)
	waits(p, 0)
	probes(p, 1, company)
	hands(p, 1)
	p.Does(2, granted)
	probes(p, 2, company)
	hands(p, 2)
	p.Does(0, granted)
	probes(p, 0, alone)
	swaps(p, 1)
	p.Probe(0)
	p.Does(0, alone)
	stores(p, 1)
	probes(p, 0, company)
	p.Words(2, 2, 0, 0, 1, 1, 0)
}

// A Lock's steps go by what the words are, whoever stored it there: a tail that
// isn't 0 is somebody ahead, a locked that isn't 0 is one that waits.
func TestLockGoesByTheWordsP13_1(t *testing.T) {
	for _, ahead := range []int{0, 2, 3, 5} {
		p := newPair(t, 5, 1, 1, 0, 7, 6)
		p.Calls(1)
		p.Does(1, nothing)
		p.Sets(0, uint32(ahead)+1)
		p.Sets(3, 9)
		p.Does(1, enq)
		p.Sets(0, 0)
		p.Does(1, nothing)
		p.Sets(4, 0)
		want := make([]uint32, 13)
		want[3], want[1+2*ahead] = 9, 2
		p.Does(1, nothing)
		p.Words(want...)
		for _, v := range locktest.Others(0) {
			p.Sets(4, v)
			p.Does(1, nothing)
		}
		p.Sets(2+2*ahead, 1)
		p.Sets(4, 0)
		p.Does(1, granted)
	}
}

// So do an Unlock's and a Probe's: a next that isn't 0 is somebody behind, and
// tail is its own just where it is its number.
func TestUnlockGoesByTheWordsP13_1(t *testing.T) {
	for behind := range uint32(6) {
		p := newPair(t, 5, 1, 1, 0, 7, 6)
		locked := 2 + 2*int(behind)
		for again := range 2 {
			p.Calls(3)
			p.Does(3, nothing, first)
			p.Unlock(3)
			if again == 1 {
				p.Does(3, nothing)
				p.Sets(0, 5)
				p.Does(3, nothing, nothing)
			}
			p.Sets(7, behind+1)
			p.Does(3, nothing)
			p.Sets(7, 0)
			p.Sets(0, 4)
			p.Sets(locked, 1)
			p.Does(3, released)
			want := make([]uint32, 13)
			want[0] = 4
			p.Words(want...)
			p.Sets(0, 0)
		}
	}
}

func TestLeavesByTheWordsP13_1(t *testing.T) {
	for _, v := range locktest.Others(3) {
		p := newPair(t, 5, 1, 1)
		holds(p, 2)
		p.Unlock(2)
		p.Does(2, nothing)
		p.Sets(0, v)
		p.Does(2, nothing)
		p.Words(v)
		p.Sets(0, 3)
		p.Does(2, nothing, nothing)
		p.Words(3)
		p.Sets(5, 1)
		p.Does(2, nothing, released)
		p.Words(3, 0, 0, 0, 0, 1, 0)
	}
	p := newPair(t, 5, 1, 1)
	holds(p, 2)
	p.Unlock(2)
	p.Does(2, nothing)
	p.Sets(5, 1)
	p.Does(2, released)
	p.Words(0, 0, 0, 0, 0, 1, 0)
}

func TestProbeGoesByTheWordsP13_1(t *testing.T) {
	p := newPair(t, 5, 1, 1)
	holds(p, 1)
	for _, v := range locktest.Others(0) {
		p.Sets(3, v)
		probes(p, 1, company)
	}
	p.Sets(3, 0)
	for v := range uint32(5) {
		p.Sets(0, v)
		p.Sets(1, 2)
		p.Sets(4, 1)
		probes(p, 1, alone)
	}
}

// A store is one whatever the word was.
func TestStoresWhateverItWasP13_1(t *testing.T) {
	for _, v := range locktest.Others(0) {
		p := newPair(t, 5, 1)
		holds(p, 0)
		p.Sets(3, v)
		p.Calls(1)
		p.Does(1, nothing)
		p.Words(1, 0, 0, 0, 0)
		p.Sets(4, v)
		p.Does(1, enq, nothing)
		p.Words(2, 0, 0, 0, 1)
		p.Sets(1, v)
		p.Does(1, nothing)
		p.Words(2, 2, 0, 0, 1)
		p.Unlock(0)
		p.Does(0, nothing)
		p.Sets(4, v)
		p.Does(0, released)
		p.Words(2, 2, 0, 0, 0)
	}
}

// A number that a stranger stored, and whose words lie behind the port's, ends
// nothing: a store there is none.
func TestNumbersOfNobodyP13_1(t *testing.T) {
	for _, v := range []uint32{1000, 1 << 16, 1<<31 - 1, 1 << 31, 1<<31 + 1, 1<<32 - 2, 1<<32 - 1} {
		p := locktest.NewRow(t, 2, queue(), locktest.Homes(8, 0), []int{5, 1})[1]
		p.Calls(0)
		p.Does(0, nothing)
		p.Sets(0, v)
		p.Does(0, enq, nothing, nothing, nothing)
		p.Words(1, 0, 1, 0, 0)
		p.Sets(2, 0)
		p.Does(0, granted)
		p.Sets(1, v)
		hands(p, 0)
		p.Words(1, v, 0, 0, 0)
	}
}

func TestWhereTheWordsLieP13_1(t *testing.T) {
	for _, before := range []int{0, 1, 5, 64} {
		for _, homes := range [][]int{{0}, {7}, {7, 0}, {3, 1, 4}, {1, 2, 3, 4, 5, 6, 7}, locktest.Homes(63, 2), locktest.Homes(64, 7)} {
			own := []int{homes[0]}
			for _, h := range homes {
				own = append(own, h, h)
			}
			locktest.Lies(t, queue(), before, homes, own, make([]uint32, 1+2*len(homes)))
		}
	}
}

func TestHomesFromNoughtToSevenP13_1(t *testing.T) {
	for h := range api.MaxNodes {
		newPair(t, h)
		newPair(t, 7-h, h, 0)
	}
}

// Each of 64 contexts has its number, and its words, behind the one before it.
func TestEachHasItsWordsP13_1(t *testing.T) {
	p := newPair(t, locktest.Homes(64, 3)...)
	want := make([]uint32, 129)
	holds(p, 0)
	for c := 1; c < 64; c++ {
		waits(p, c)
		want[0], want[2*c-1], want[2+2*c] = uint32(c)+1, uint32(c)+1, 1
		p.Words(want...)
	}
	for c := range 63 {
		hands(p, c)
		want[4+2*c] = 0
		p.Words(want...)
		p.Does(c+1, granted)
	}
	leaves(p, 63)
}

func TestAnyCallsP13_1(t *testing.T) {
	for steps := range 8 {
		locktest.AnyCalls(t, queue(), 1000+steps)
	}
}

func TestTwoLocksP13_1(t *testing.T) {
	for steps := range 8 {
		locktest.RowInOnePlan(t, queue(), 1500+steps)
		locktest.PortsOfOnePlan(t, queue(), 1500+steps)
	}
}

func TestUseOfOtherPortsP13_1(t *testing.T) {
	for steps := range 8 {
		locktest.UseOfOtherPorts(t, queue(), 500+steps)
	}
}

func TestOrderIsThatOfEnqsP13_1(t *testing.T) {
	for n := 1; n <= 16; n++ {
		locktest.GrantsInOrderOfEnqs(t, queue(), n, 2000)
	}
}

// Two contexts step in each order that there is: one has the lock at a time,
// who swapped first has it first, and both come to their ends.
func TestEachOrderOfTwoP13_1(t *testing.T) {
	const long = 12
	for script := range 1 << long {
		p := newPair(t, 0, 1)
		p.Calls(0)
		p.Calls(1)
		var enqs, grants []int
		for i := range long + 12 {
			c := i % 2
			if i < long {
				c = script >> i & 1
			}
			if p.Lock.State(c) == api.Holding {
				p.Unlock(c)
			}
			did := p.Step(c, c, 0)
			if did.Enq {
				enqs = append(enqs, c)
			}
			if did.Event == api.Granted {
				grants = append(grants, c)
				if other := p.Lock.State(1 - c); other != api.Idle && other != api.Locking {
					t.Fatalf("script %b: %d was granted the lock while the other one had it", script, c)
				}
			}
		}
		if len(grants) != 2 || !slices.Equal(enqs, grants) || p.Lock.State(0) != api.Idle || p.Lock.State(1) != api.Idle {
			t.Fatalf("script %b: enqs %v, grants %v", script, enqs, grants)
		}
		p.Words(0)
	}
}

func TestByTurnsAllComeToTheirEndsP13_1(t *testing.T) {
	for _, n := range []int{1, 2, 5, 64} {
		locktest.ByTurns(t, queue(), n, 3)
	}
}

func TestHowManyContextsP13_1(t *testing.T) { locktest.HowManyContexts(t, queue()) }

func TestEachCallInEachStateP13_1(t *testing.T) { locktest.EachCallInEachState(t, queue()) }

func TestDeadlinesAreNotTakenP13_1(t *testing.T) { locktest.NoDeadlines(t, queue()) }

func TestNoSuchContextP13_1(t *testing.T) { locktest.NoSuchContext(t, queue()) }

func TestStepOfIdleAndHoldingP13_1(t *testing.T) { locktest.StepOfIdleAndHolding(t, queue()) }

func TestAnyTickP13_1(t *testing.T) { locktest.AnyTick(t, queue()) }

func TestHomesStayTheAskersP13_1(t *testing.T) { locktest.HomesStayTheAskers(t, queue()) }

func TestWrongHomesP13_1(t *testing.T) {
	for _, homes := range locktest.NoHomes() {
		locktest.Refuses(t, api.ErrArg, func(p *plan.Plan) (bool, api.Errno) {
			l, e := mcs.New(p, homes)
			return l == nil, e
		})
	}
}

func TestOneAccessAStepP13_2(t *testing.T) {
	for steps := range 4 {
		locktest.OneAccessAStep(t, queue(), 2000+steps)
	}
}

func TestNoAccessButAStepsP13_2(t *testing.T) { locktest.NoAccessButAStep(t, queue()) }

// Each step of a whole way has just one access, one that waits too.
func TestEachStepHasItsAccessP13_2(t *testing.T) {
	p := newPair(t, 1, 2)
	counts := func(want0, want1 int) {
		t.Helper()
		if a, b := p.Port.Accesses(0), p.Port.Accesses(1); a != want0 || b != want1 {
			t.Fatalf("accesses %d, %d, want %d, %d", a, b, want0, want1)
		}
	}
	holds(p, 0)
	counts(2, 0)
	swaps(p, 1)
	counts(2, 2)
	probes(p, 0, alone)
	counts(3, 2)
	p.Unlock(0)
	p.Does(0, nothing, nothing, nothing, nothing)
	counts(7, 2)
	stores(p, 1)
	p.Does(1, nothing)
	counts(7, 5)
	p.Does(0, nothing, released)
	counts(9, 5)
	p.Does(1, granted)
	leaves(p, 1)
	counts(9, 8)
}

// The accesses are those of who steps; numbers and words are the context's.
func TestStepsByOtherThreadsP13_3(t *testing.T) {
	p := locktest.New(t, 8, queue(), 1, 2)
	does := func(t, as int, want api.Did) {
		p.Helper()
		if got := p.Step(t, as, 0); got != want {
			p.Fatalf("step of %d by %d: %v, want %v", t, as, got, want)
		}
	}
	p.Calls(1)
	does(1, 0, nothing)
	does(1, 7, first)
	p.Words(2, 0, 0, 0, 0)
	p.Calls(0)
	for as, want := range []api.Did{nothing, enq, nothing, nothing, nothing} {
		does(0, 1+as, want)
	}
	p.Words(1, 0, 1, 1, 0)
	p.Probe(1)
	does(1, 6, company)
	p.Unlock(1)
	does(1, 0, nothing)
	does(1, 0, released)
	does(0, 1, granted)
	p.Words(1, 0, 0, 1, 0)
	for as, want := range [][2]int{{3, 2}, {2, 1}, {1, 1}, {1, 1}, {1, 1}, {1, 0}, {1, 0}, {1, 1}} {
		if got := [2]int{p.Port.Accesses(as), p.Port.Writes(as)}; got != want {
			t.Errorf("accesses and writes of %d: %v, want %v", as, got, want)
		}
	}
}

func TestWhoeverStepsP13_3(t *testing.T) { locktest.WhoeverSteps(t, queue()) }

// One thread alone does all steps of all contexts.
func TestOneThreadStepsForAllP13_3(t *testing.T) {
	p := locktest.New(t, 1, queue(), locktest.Homes(64, 0)...)
	steps := func(c int, want ...api.Did) {
		p.Helper()
		for _, did := range want {
			if got := p.Step(c, 0, 0); got != did {
				p.Fatalf("step of %d: %v, want %v", c, got, did)
			}
		}
	}
	p.Calls(63)
	steps(63, nothing, first)
	for c := range 63 {
		p.Calls(c)
		steps(c, nothing, enq, nothing, nothing, nothing)
	}
	p.Words(63, 2, 1, 3, 1)
	for i := range 63 {
		c := (63 + i) % 64
		p.Unlock(c)
		steps(c, nothing, released)
		steps((c+1)%64, granted)
	}
	p.Unlock(62)
	steps(62, nothing, released)
	p.Words(0)
}
