package abort_test

import (
	"math"
	"slices"
	"testing"

	"weighlock/abort"
	"weighlock/api"
	"weighlock/locktest"
	"weighlock/plan"
	"weighlock/port"
)

// What steps do. first: its node got its place, and none was ahead.
var (
	nothing  = api.Did{}
	enq      = api.Did{Enq: true}
	first    = api.Did{Event: api.Granted, Enq: true}
	granted  = api.Did{Event: api.Granted}
	timedOut = api.Did{Event: api.TimedOut}
	released = api.Did{Event: api.Released}
	refused  = api.Did{Event: api.Refused}
)

// node is the addresses of a node's words.
type node struct{ state, next, out int }

// model is what the chapter says, in plain words: where the words of each node
// are, and of each context its nodes, the one that it uses, the one ahead of
// that and the one behind, and which of the steps of its call it is at.
type model struct {
	*port.Port
	tail               int
	nodes              []node
	rows               [][]uint32
	own, ahead, behind []uint32
	at, looked         []int
	now, deadline      int
}

func (m *model) Use(p *port.Port) { m.Port = p }

func (m *model) At(now, deadline int) { m.now, m.deadline = now, deadline }

// of is the words of a number: nowhere, if there is no such node.
func (m *model) of(number uint32) node {
	if number == 0 || int(number) > len(m.nodes) {
		return node{state: -1, next: -1, out: -1}
	}
	return m.nodes[number-1]
}

func (m *model) Step(state, t, as int) api.Did {
	steps := m.unlock
	if state == api.Locking {
		steps = m.lock
	}
	did := steps(t, as)
	if did.Event != api.None {
		m.at[t], m.looked[t] = 1, 0
	}
	return did
}

// lock is a step of a Lock.
func (m *model) lock(t, as int) api.Did {
	own := m.of(m.own[t])
	switch m.at[t] {
	case 1:
		return m.looks(t, as)
	case 2:
		m.Store(as, own.out, 1)
	case 3:
		m.Store(as, own.state, 0)
	case 4:
		m.Store(as, own.next, 0)
	case 5:
		m.ahead[t] = m.Swap(as, m.tail, m.own[t])
		if m.ahead[t] == 0 {
			return first
		}
		m.at[t] = 6
		return enq
	case 6:
		m.Store(as, m.of(m.ahead[t]).next, m.own[t])
	case 7:
		if m.Load(as, own.state) != 0 {
			return granted
		}
		if m.deadline == -1 || m.now < m.deadline {
			return nothing
		}
	case 8:
		if m.Cas(as, own.state, 0, 2) {
			return timedOut
		}
		return granted
	}
	m.at[t]++
	return nothing
}

// looks is the first step of a Lock.
func (m *model) looks(t, as int) api.Did {
	number := m.rows[t][m.looked[t]]
	m.looked[t]++
	if m.Load(as, m.of(number).out) == 0 {
		m.own[t] = number
		m.at[t] = 2
		return nothing
	}
	if m.looked[t] == len(m.rows[t]) {
		return refused
	}
	return nothing
}

// unlock is a step of an Unlock.
func (m *model) unlock(t, as int) api.Did {
	own := m.of(m.own[t])
	done := map[bool]int{false: m.at[t] + 1, true: 6}
	switch m.at[t] {
	case 1, 3:
		m.behind[t] = m.Load(as, own.next)
		if m.behind[t] != 0 {
			m.at[t] = 4
		} else if m.at[t] == 1 {
			m.at[t] = 2
		}
	case 2:
		m.at[t] = done[m.Cas(as, m.tail, m.own[t], 0)]
	case 4:
		m.at[t] = done[m.Cas(as, m.of(m.behind[t]).state, 0, 1)]
	case 5:
		m.Store(as, own.out, 0)
		m.own[t] = m.behind[t]
		m.at[t] = 1
	case 6:
		m.Store(as, own.out, 0)
		return released
	}
	return nothing
}

// out is how many of a context's nodes are out.
func (m *model) out(t int) int {
	n := 0
	if 0 <= t && t < len(m.rows) {
		words := m.Words()
		for _, number := range m.rows[t] {
			if words[m.of(number).out] != 0 {
				n++
			}
		}
	}
	return n
}

// newModel lays the words, one by one.
func newModel(p *plan.Plan, homes []int, each int) *model {
	n := len(homes)
	m := &model{tail: p.Word(homes[0], 0), rows: make([][]uint32, n), looked: make([]int, n), at: slices.Repeat([]int{1}, n)}
	m.own, m.ahead, m.behind = make([]uint32, n), make([]uint32, n), make([]uint32, n)
	for i, h := range homes {
		for range each {
			m.nodes = append(m.nodes, node{p.Word(h, 0), p.Word(h, 0), p.Word(h, 0)})
			m.rows[i] = append(m.rows[i], uint32(len(m.nodes)))
		}
	}
	return m
}

// queue is the kind of these locks with so many nodes each.
func queue(each int) locktest.Kind {
	return locktest.Kind{
		Timed: true,
		Lay:   func(p *plan.Plan, homes []int) (locktest.Lock, api.Errno) { return abort.New(p, homes, each) },
		Model: func(p *plan.Plan, homes []int) locktest.Model { return newModel(p, homes, each) },
		More: func(l locktest.Lock, m locktest.Model, t int) (int, int) {
			return l.(*abort.Lock).Out(t), m.(*model).out(t)
		},
	}
}

// kinds are those with few nodes each, and with many.
func kinds() []locktest.Kind {
	return []locktest.Kind{queue(1), queue(2), queue(3), queue(8)}
}

// newPair is a lock of contexts with these homes.
func newPair(t *testing.T, each int, homes ...int) *locktest.Pair {
	t.Helper()
	return locktest.New(t, max(len(homes), 2), queue(each), homes...)
}

// outs says how many nodes of each context are out.
func outs(p *locktest.Pair, want ...int) {
	p.Helper()
	for c, n := range want {
		if got := p.Lock.(*abort.Lock).Out(c); got != n {
			p.Fatalf("Out(%d) = %d, want %d", c, got, n)
		}
	}
}

// holds brings an idle context, whose first node is free, and with none ahead
// of it, to its Grant.
func holds(p *locktest.Pair, t int) {
	p.Helper()
	p.Calls(t)
	p.Does(t, nothing, nothing, nothing, nothing, first)
}

// enters brings an idle context, of whose nodes so many are out, to its Enq
// behind another one.
func enters(p *locktest.Pair, t, out, deadline int) {
	p.Helper()
	p.CallsTill(t, deadline)
	p.Does(t, slices.Repeat([]api.Did{nothing}, out)...)
	p.Does(t, nothing, nothing, nothing, nothing, enq)
}

// waits brings an idle context, whose first node is free, to where the one ahead
// knows of it, and it looks.
func waits(p *locktest.Pair, t, deadline int) {
	p.Helper()
	enters(p, t, 0, deadline)
	p.Does(t, nothing, nothing)
}

// givesUp brings one that has a deadline, and looks, to its end.
func givesUp(p *locktest.Pair, t int) {
	p.Helper()
	p.Does(t, nothing, timedOut)
}

// hands brings one who has the lock, and knows of one behind that waits, to its
// end.
func hands(p *locktest.Pair, t int) {
	p.Helper()
	p.Unlock(t)
	p.Does(t, nothing, nothing, released)
}

// leaves brings one who has the lock, and is the last one, to its end: these
// are three steps as well.
func leaves(p *locktest.Pair, t int) {
	p.Helper()
	hands(p, t)
	p.Words(0)
	outs(p, make([]int, p.Lock.Len())...)
}

// Two contexts: 0 has the lock, 1 calls with the deadline 3, and gives up at the
// tick 3: its node is out till 0 unlocks.
func TestExampleP14_1(t *testing.T) {
	p := newPair(t, 1, 0, 1)
	holds(p, 0)
	waits(p, 1, 3)
	for p.Now = range 3 {
		p.Does(1, nothing)
	}
	p.Now = 3
	p.Does(1, nothing, timedOut)
	outs(p, 1, 1)
	p.Unlock(0)
	outs(p, 1, 1)
	p.Does(0, nothing, nothing, nothing)
	outs(p, 0, 1)
	p.Does(0, nothing, nothing, released)
	outs(p, 0, 0)
	p.Words(0, 0, 2, 0, 2, 0, 0)
}

// A whole way of a context that finds nobody, with all words behind each step.
func TestWholeWayAloneP14_1(t *testing.T) {
	p := newPair(t, 1, 3, 5)
	p.Words(0, 0, 0, 0, 0, 0, 0)
	p.Calls(1)
	p.Words(0, 0, 0, 0, 0, 0, 0)
	p.Does(1, nothing)
	p.Words(0, 0, 0, 0, 0, 0, 0)
	p.Does(1, nothing)
	p.Words(0, 0, 0, 0, 0, 0, 1)
	outs(p, 0, 1)
	p.Does(1, nothing, nothing)
	p.Words(0, 0, 0, 0, 0, 0, 1)
	p.Does(1, first)
	p.Words(2, 0, 0, 0, 0, 0, 1)
	p.Unlock(1)
	p.Words(2, 0, 0, 0, 0, 0, 1)
	p.Does(1, nothing)
	p.Words(2, 0, 0, 0, 0, 0, 1)
	p.Does(1, nothing)
	p.Words(0, 0, 0, 0, 0, 0, 1)
	outs(p, 0, 1)
	p.Does(1, released)
	p.Words(0, 0, 0, 0, 0, 0, 0)
	outs(p, 0, 0)
}

// A whole way of one that finds somebody ahead, and of that one, who knows of it
// when it unlocks, with all words behind each step.
func TestWholeWayBehindAnotherP14_1(t *testing.T) {
	p := newPair(t, 1, 3, 5)
	holds(p, 1)
	p.Words(2, 0, 0, 0, 0, 0, 1)
	p.Calls(0)
	p.Does(0, nothing)
	p.Words(2, 0, 0, 0, 0, 0, 1)
	p.Does(0, nothing)
	p.Words(2, 0, 0, 1, 0, 0, 1)
	p.Does(0, nothing, nothing)
	p.Words(2, 0, 0, 1, 0, 0, 1)
	p.Does(0, enq)
	p.Words(1, 0, 0, 1, 0, 0, 1)
	p.Does(0, nothing)
	p.Words(1, 0, 0, 1, 0, 1, 1)
	p.Does(0, nothing, nothing)
	p.Words(1, 0, 0, 1, 0, 1, 1)
	p.Unlock(1)
	p.Does(1, nothing)
	p.Does(0, nothing)
	p.Words(1, 0, 0, 1, 0, 1, 1)
	p.Does(1, nothing)
	p.Words(1, 1, 0, 1, 0, 1, 1)
	p.Does(0, granted)
	p.Words(1, 1, 0, 1, 0, 1, 1)
	outs(p, 1, 1)
	p.Does(1, released)
	p.Words(1, 1, 0, 1, 0, 1, 0)
	outs(p, 1, 0)
	p.Calls(1)
	p.Does(1, nothing, nothing, nothing)
	p.Words(1, 1, 0, 1, 0, 1, 1)
	p.Does(1, nothing)
	p.Words(1, 1, 0, 1, 0, 0, 1)
	p.Does(1, enq, nothing)
	p.Words(2, 1, 2, 1, 0, 0, 1)
	hands(p, 0)
	p.Words(2, 1, 2, 0, 1, 0, 1)
	p.Does(1, granted)
	leaves(p, 1)
	p.Calls(0)
	p.Does(0, nothing, nothing)
	p.Words(0, 1, 2, 1, 1, 0, 0)
	p.Does(0, nothing)
	p.Words(0, 0, 2, 1, 1, 0, 0)
	p.Does(0, nothing)
	p.Words(0, 0, 0, 1, 1, 0, 0)
	p.Does(0, first)
}

// It looks at its nodes from the first one on till one is free, and at no other
// context's.
func TestTakesTheFirstFreeNodeP14_1(t *testing.T) {
	for _, each := range []int{1, 2, 3, 8} {
		for free := range each {
			p := newPair(t, each, 3, 5, 2)
			for out := range 3 * each {
				p.Sets(3+3*out, 1)
			}
			node := each + free
			p.Sets(3+3*node, 0)
			p.Calls(1)
			p.Does(1, slices.Repeat([]api.Did{nothing}, free)...)
			p.Sets(3+3*each, uint32(min(free, 1)))
			p.Does(1, nothing, nothing)
			outs(p, each, each, each)
			p.Does(1, nothing, nothing, first)
			p.Words(uint32(node) + 1)
			if got := p.Port.Accesses(1); got != free+5 {
				t.Errorf("%d accesses, %d nodes out", got, free)
			}
		}
	}
}

// With all nodes out it is refused with the last look; it may call again, and
// begins with its first node then.
func TestRefusedP14_1(t *testing.T) {
	for _, each := range []int{1, 2, 3, 8} {
		p := newPair(t, each, 3, 5, 2)
		for out := range each {
			p.Sets(3+3*(each+out), 1)
		}
		for range 3 {
			p.Calls(1)
			p.Does(1, slices.Repeat([]api.Did{nothing}, each-1)...)
			p.Does(1, refused, nothing, nothing)
			outs(p, 0, each, 0)
		}
		p.Words(0)
		if got := [2]int{p.Port.Accesses(1), p.Port.Writes(1)}; got != [2]int{3 * each, 0} {
			t.Errorf("%d each: accesses and writes: %v", each, got)
		}
		p.Sets(3+3*each, 0)
		holds(p, 1)
		p.Words(uint32(each) + 1)
	}
}

// It gives up while it is the last one: who unlocks sees it, or not yet.
func TestGivesUpLastP14_1(t *testing.T) {
	for _, late := range []bool{false, true} {
		p := newPair(t, 1, 4, 2)
		holds(p, 0)
		p.Words(1, 0, 0, 1, 0, 0, 0)
		if late {
			p.Unlock(0)
			p.Does(0, nothing)
		}
		waits(p, 1, 0)
		p.Words(2, 0, 2, 1, 0, 0, 1)
		p.Does(1, timedOut)
		p.Words(2, 0, 2, 1, 2, 0, 1)
		outs(p, 1, 1)
		if late {
			p.Does(0, nothing)
		} else {
			p.Unlock(0)
		}
		p.Does(0, nothing, nothing)
		p.Words(2, 0, 2, 1, 2, 0, 1)
		p.Does(0, nothing)
		p.Words(2, 0, 2, 0, 2, 0, 1)
		p.Does(0, nothing)
		p.Words(2, 0, 2, 0, 2, 0, 1)
		p.Does(0, nothing)
		p.Words(0, 0, 2, 0, 2, 0, 1)
		outs(p, 0, 1)
		p.Does(0, released)
		p.Words(0, 0, 2, 0, 2, 0, 0)
		outs(p, 0, 0)
		holds(p, 1)
		p.Words(2, 0, 2, 0, 0, 0, 1)
		leaves(p, 1)
		holds(p, 0)
		leaves(p, 0)
	}
}

// It gives up while somebody is behind it: that one gets the lock from the one
// ahead of both, who goes on with the node that was given up.
func TestGivesUpInTheMidstP14_1(t *testing.T) {
	p := newPair(t, 1, 4, 2, 0)
	holds(p, 0)
	waits(p, 1, 5)
	waits(p, 2, -1)
	p.Words(3, 0, 2, 1, 0, 3, 1, 0, 0, 1)
	p.Now = 5
	givesUp(p, 1)
	p.Words(3, 0, 2, 1, 2, 3, 1, 0, 0, 1)
	p.Does(2, nothing)
	p.Unlock(0)
	p.Does(0, nothing, nothing, nothing)
	p.Words(3, 0, 2, 0, 2, 3, 1, 0, 0, 1)
	p.Does(0, nothing)
	p.Does(2, nothing)
	p.Does(0, nothing)
	p.Words(3, 0, 2, 0, 2, 3, 1, 1, 0, 1)
	p.Does(2, granted)
	p.Does(0, released)
	p.Words(3, 0, 2, 0, 2, 3, 0, 1, 0, 1)
	outs(p, 0, 0, 1)
	leaves(p, 2)
}

// One compare-and-swap decides: the lock is handed to it between its last look
// and its Cas, or it gives up between the load and the Cas of who unlocks.
func TestLastLookAndCasP14_1(t *testing.T) {
	p := newPair(t, 1, 4, 2)
	holds(p, 0)
	waits(p, 1, 0)
	p.Unlock(0)
	p.Does(0, nothing, nothing)
	p.Words(2, 0, 2, 1, 1, 0, 1)
	p.Does(1, granted)
	p.Words(2, 0, 2, 1, 1, 0, 1)
	p.Does(0, released)
	leaves(p, 1)

	p = newPair(t, 1, 4, 2)
	holds(p, 0)
	waits(p, 1, 0)
	p.Unlock(0)
	p.Does(0, nothing)
	p.Does(1, timedOut)
	p.Words(2, 0, 2, 1, 2, 0, 1)
	p.Does(0, nothing, nothing)
	p.Words(2, 0, 2, 0, 2, 0, 1)
	p.Does(0, nothing, nothing, released)
	p.Words(0, 0, 2, 0, 2, 0, 0)
}

// It had its last look, and decides late: till then it may be granted the lock,
// whatever the tick; a look that finds it handed has no regard to the deadline.
func TestGrantedBehindItsDeadlineP14_1(t *testing.T) {
	for _, now := range []int{0, 4, 5, 6, 1000} {
		for _, handed := range []bool{false, true} {
			p := newPair(t, 1, 4, 2)
			holds(p, 0)
			waits(p, 1, 5)
			if handed {
				hands(p, 0)
			}
			p.Now = now
			switch {
			case handed:
				p.Does(1, granted)
			case now < 5:
				p.Does(1, nothing, nothing, nothing)
				hands(p, 0)
				p.Does(1, granted)
			default:
				p.Does(1, nothing)
				hands(p, 0)
				p.Does(1, granted)
			}
			leaves(p, 1)
		}
	}
}

// It sees nobody, and can't take its node off the tail: somebody has swapped,
// and stores at last.
func TestUnlockWaitsForAStoreP14_1(t *testing.T) {
	p := newPair(t, 1, 4, 2)
	holds(p, 0)
	enters(p, 1, 0, -1)
	p.Unlock(0)
	for range 2000 {
		p.Does(0, nothing)
	}
	p.Words(2, 0, 0, 1, 0, 0, 1)
	p.Does(1, nothing)
	p.Does(1, nothing)
	p.Words(2, 0, 2, 1, 0, 0, 1)
	p.Does(0, nothing)
	p.Does(1, nothing)
	p.Words(2, 0, 2, 1, 0, 0, 1)
	p.Does(0, nothing)
	p.Words(2, 0, 2, 1, 1, 0, 1)
	p.Does(0, released)
	p.Does(1, granted)
	leaves(p, 1)
	if got := [2]int{p.Port.Accesses(0), p.Port.Writes(0)}; got != [2]int{5 + 2003, 4 + 3} {
		t.Errorf("accesses and writes: %v", got)
	}
}

// So it does at a node that was given up, if somebody has swapped behind that
// one, and stores at last.
func TestUnlockWaitsForAStoreIntoAGivenUpNodeP14_1(t *testing.T) {
	p := newPair(t, 1, 4, 2, 0)
	holds(p, 0)
	waits(p, 1, 0)
	enters(p, 2, 0, -1)
	p.Does(1, timedOut)
	p.Unlock(0)
	p.Does(0, nothing, nothing, nothing)
	p.Words(3, 0, 2, 0, 2, 0, 1, 0, 0, 1)
	for range 500 {
		p.Does(0, nothing)
	}
	p.Does(2, nothing)
	p.Words(3, 0, 2, 0, 2, 3, 1, 0, 0, 1)
	p.Does(0, nothing, nothing)
	p.Words(3, 0, 2, 0, 2, 3, 1, 1, 0, 1)
	outs(p, 0, 1, 1)
	p.Does(0, released)
	outs(p, 0, 0, 1)
	p.Does(2, granted)
	leaves(p, 2)
}

// Somebody swaps, or swaps and stores, between its load and its try to leave.
func TestUnlockIsOvertakenByASwapP14_1(t *testing.T) {
	for _, stored := range []bool{false, true} {
		p := newPair(t, 1, 4, 2)
		holds(p, 0)
		p.Unlock(0)
		p.Does(0, nothing)
		enters(p, 1, 0, -1)
		if stored {
			p.Does(1, nothing)
		}
		p.Does(0, nothing)
		if !stored {
			p.Does(0, nothing, nothing)
			p.Does(1, nothing)
		}
		p.Words(2, 0, 2, 1, 0, 0, 1)
		p.Does(0, nothing, nothing, released)
		p.Does(1, granted)
		leaves(p, 1)
	}
}

// Of those behind it some gave up: the first one that didn't gets the lock; if
// all did, nobody has it. The nodes of those that it goes by are back.
func TestUnlockGoesByThoseThatGaveUpP14_1(t *testing.T) {
	const n = 6
	for gaveUp := range 1 << (n - 1) {
		p := newPair(t, 2, locktest.Homes(n, 1)...)
		holds(p, 0)
		for c := 1; c < n; c++ {
			waits(p, c, 7)
		}
		p.Now = 7
		next, want := n, make([]int, n)
		for c := n - 1; c > 0; c-- {
			want[c] = 1
			if gaveUp>>(c-1)&1 == 1 {
				givesUp(p, c)
			} else {
				next = c
			}
		}
		p.Unlock(0)
		for c := 1; c < next; c++ {
			outs(p, slices.Concat(make([]int, c-1), []int{1}, want[c:])...)
			p.Does(0, nothing, nothing, nothing)
		}
		if next == n {
			p.Does(0, nothing, nothing, released)
			p.Words(0)
			outs(p, make([]int, n)...)
			continue
		}
		p.Does(0, nothing, nothing, released)
		outs(p, slices.Concat(make([]int, next), want[next:])...)
		for c := next + 1; c < n; c++ {
			if gaveUp>>(c-1)&1 == 0 {
				p.Does(c, nothing)
			}
		}
		p.Does(next, granted)
	}
}

// It gives up, and calls again while its first node is still out: with its next
// node, till it has none; when the nodes are back, it begins with the first.
func TestCallsAgainWhileItsNodesAreOutP14_1(t *testing.T) {
	for _, each := range []int{1, 2, 8} {
		p := newPair(t, each, 4, 2)
		holds(p, 0)
		for out := range each {
			outs(p, 1, out)
			enters(p, 1, out, 3*out+2)
			p.Words(uint32(each + out + 1))
			p.Now = 3*out + 1
			p.Does(1, nothing, nothing, nothing)
			p.Now++
			givesUp(p, 1)
		}
		outs(p, 1, each)
		p.CallsTill(1, 0)
		p.Does(1, slices.Repeat([]api.Did{nothing}, each-1)...)
		p.Does(1, refused)
		p.Unlock(0)
		outs(p, 1, each)
		for out := range each {
			p.Does(0, nothing, nothing, nothing)
			outs(p, 0, each-out)
		}
		p.Does(0, nothing, nothing, released)
		outs(p, 0, 0)
		holds(p, 1)
		p.Words(uint32(each + 1))
	}
}

// Nodes come back while others of the same context are out: the first free one
// is taken, if it is a hole too.
func TestTakesANodeThatCameBackP14_1(t *testing.T) {
	p := newPair(t, 3, 4, 2, 0)
	holds(p, 0)
	waits(p, 1, 0)
	p.Does(1, timedOut)
	waits(p, 2, -1)
	enters(p, 1, 1, 0)
	p.Does(1, nothing, nothing, timedOut)
	outs(p, 1, 2, 1)
	p.Unlock(0)
	p.Does(0, nothing, nothing, nothing, nothing, nothing, released)
	outs(p, 0, 1, 1)
	p.Does(2, granted)
	enters(p, 1, 0, -1)
	p.Words(4)
	p.Does(1, nothing, nothing)
	outs(p, 0, 2, 1)
	p.Unlock(2)
	p.Does(2, nothing, nothing, nothing, nothing, nothing, released)
	p.Does(1, granted)
	outs(p, 0, 1, 0)
	leaves(p, 1)
}

// A context may be ahead of itself: its node that was given up is.
func TestBehindItselfP14_1(t *testing.T) {
	p := newPair(t, 2, 4, 2)
	holds(p, 0)
	waits(p, 1, 0)
	p.Does(1, timedOut)
	enters(p, 1, 1, -1)
	p.Words(4, 0, 3, 1, 0, 0, 0, 2, 0, 1, 0, 0, 1)
	p.Does(1, nothing)
	p.Words(4, 0, 3, 1, 0, 0, 0, 2, 4, 1, 0, 0, 1)
	p.Does(1, nothing)
	p.Unlock(0)
	p.Does(0, nothing, nothing, nothing, nothing, nothing, released)
	p.Words(4, 0, 3, 0, 0, 0, 0, 2, 4, 0, 1, 0, 1)
	p.Does(1, granted)
	p.Unlock(1)
	p.Does(1, nothing, nothing)
	p.Words(0, 0, 3, 0, 0, 0, 0, 2, 4, 0, 1, 0, 1)
	p.Does(1, released)
	outs(p, 0, 0)
	holds(p, 1)
	p.Words(3, 0, 3, 0, 0, 0, 0, 0, 0, 1, 1, 0, 0)
}

func TestWaitsTillItsTurnP14_1(t *testing.T) {
	p := newPair(t, 1, 0, 1, 2)
	holds(p, 0)
	waits(p, 1, -1)
	waits(p, 2, 5000)
	for p.Now = range 2000 {
		p.Does(2, nothing)
	}
	hands(p, 0)
	for range 2000 {
		p.Does(2, nothing)
	}
	p.Does(1, granted)
	p.Does(2, nothing)
	hands(p, 1)
	p.Does(2, granted)
	leaves(p, 2)
	if got := p.Port.Accesses(2); got != 7+4001+1+3 {
		t.Errorf("%d accesses", got)
	}
}

// The order is that of the swaps, whoever called first, and whoever stores or
// looks first.
func TestOrderIsThatOfSwapsP14_1(t *testing.T) {
	p := newPair(t, 2, 0, 1, 2, 3)
	for c := range 4 {
		p.Calls(c)
		p.Does(c, nothing, nothing, nothing, nothing)
	}
	p.Does(3, first)
	p.Does(1, enq)
	p.Does(0, enq)
	p.Does(2, enq)
	p.Words(5)
	for _, c := range []int{2, 0, 1} {
		p.Does(c, nothing, nothing)
	}
	p.Words(5, 0, 5, 1, 0, 0, 0, 0, 1, 1, 0, 0, 0, 0, 0, 1, 0, 0, 0, 0, 3, 1)
	for i, c := range []int{3, 1, 0} {
		hands(p, c)
		behind := []int{1, 0, 2}[i:]
		for _, d := range behind[1:] {
			p.Does(d, nothing)
		}
		p.Does(behind[0], granted)
	}
	leaves(p, 2)
	p.Words(0, 1, 5, 0, 0, 0, 0, 1, 1, 0, 0, 0, 0, 1, 0, 0, 0, 0, 0, 0, 3, 0)
}

// A node is out whatever its out is but 0, whoever stored it there.
func TestOutGoesByTheWordsP14_1(t *testing.T) {
	for _, v := range locktest.Others(0) {
		p := newPair(t, 2, 5, 1)
		p.Sets(9, v)
		outs(p, 0, 1)
		p.Sets(12, v)
		outs(p, 0, 2)
		p.Calls(1)
		p.Does(1, nothing, refused)
		p.Calls(1)
		p.Does(1, nothing)
		p.Sets(12, 0)
		p.Does(1, nothing)
		p.Sets(12, v)
		p.Does(1, nothing)
		p.Words(0, 0, 0, 0, 0, 0, 0, 0, 0, v, 0, 0, 1)
		p.Does(1, nothing, nothing, first)
		p.Sets(12, v)
		p.Unlock(1)
		p.Does(1, nothing, nothing, released)
		p.Words(0, 0, 0, 0, 0, 0, 0, 0, 0, v, 0, 0, 0)
	}
}

// A Lock's steps go by what the words are: a tail that isn't 0 is a node ahead,
// a state that isn't 0 is that of a node that has the lock.
func TestLockGoesByTheWordsP14_1(t *testing.T) {
	for _, ahead := range []int{0, 2, 3, 5} {
		p := newPair(t, 1, 5, 1, 1, 0, 7, 6)
		p.Calls(1)
		p.Does(1, nothing, nothing, nothing, nothing)
		p.Sets(0, uint32(ahead)+1)
		p.Does(1, enq)
		p.Sets(0, 0)
		want := make([]uint32, 19)
		want[6], want[2+3*ahead] = 1, 2
		p.Does(1, nothing)
		p.Words(want...)
		p.Does(1, nothing)
		p.Sets(1+3*ahead, 1)
		p.Does(1, nothing)
		p.Sets(4, 1)
		p.Does(1, granted)
	}
	for _, v := range locktest.Others(0) {
		p := newPair(t, 1, 5, 1)
		holds(p, 0)
		waits(p, 1, 0)
		p.Sets(4, v)
		p.Does(1, granted)
		p.Words(2, 0, 2, 1, v, 0, 1)

		p = newPair(t, 1, 5, 1)
		holds(p, 0)
		enters(p, 1, 0, 0)
		p.Sets(4, v)
		p.Does(1, nothing, granted)
		p.Words(2, 0, 2, 1, v, 0, 1)
	}
}

// So do an Unlock's: a next that isn't 0 is a node behind, tail is its own just
// where it is its number, and a state that isn't 0 is that of a node that was
// given up.
func TestUnlockGoesByTheWordsP14_1(t *testing.T) {
	for behind := range uint32(6) {
		p := newPair(t, 1, 5, 1, 1, 0, 7, 6)
		for again := range 2 {
			holds(p, 3)
			p.Unlock(3)
			if again == 1 {
				p.Does(3, nothing)
				p.Sets(0, 5)
				p.Does(3, nothing, nothing)
			}
			p.Sets(11, behind+1)
			p.Does(3, nothing)
			p.Sets(11, 0)
			p.Sets(0, 4)
			p.Does(3, nothing)
			want := make([]uint32, 19)
			want[0], want[12], want[1+3*behind] = 4, 1, 1
			p.Words(want...)
			p.Does(3, released)
			want[12] = 0
			p.Words(want...)
			p.Sets(0, 0)
			p.Sets(1+3*int(behind), 0)
		}
	}
}

func TestGivenUpGoesByTheWordsP14_1(t *testing.T) {
	for _, v := range locktest.Others(0) {
		p := newPair(t, 1, 5, 1, 1)
		holds(p, 0)
		p.Sets(2, 3)
		p.Sets(7, v)
		p.Sets(9, 7)
		p.Unlock(0)
		p.Does(0, nothing, nothing)
		p.Words(1, 0, 3, 1, 0, 0, 0, v, 0, 7)
		p.Does(0, nothing)
		p.Words(1, 0, 3, 0, 0, 0, 0, v, 0, 7)
		p.Does(0, nothing, nothing)
		p.Sets(0, 3)
		p.Sets(8, 2)
		p.Does(0, nothing)
		p.Sets(8, 0)
		p.Does(0, nothing)
		p.Words(3, 0, 3, 0, 1, 0, 0, v, 0, 7)
		p.Does(0, released)
		p.Words(3, 0, 3, 0, 1, 0, 0, v, 0, 0)
	}
}

func TestLeavesByTheWordsP14_1(t *testing.T) {
	for _, v := range locktest.Others(3) {
		p := newPair(t, 1, 5, 1, 1)
		holds(p, 2)
		p.Unlock(2)
		p.Does(2, nothing)
		p.Sets(0, v)
		p.Does(2, nothing)
		p.Words(v)
		p.Sets(0, 3)
		p.Does(2, nothing, nothing)
		p.Words(3)
		p.Sets(8, 1)
		p.Does(2, nothing, nothing, released)
		p.Words(3, 1, 0, 0, 0, 0, 0, 0, 1, 0)
	}
	p := newPair(t, 1, 5, 1, 1)
	holds(p, 2)
	p.Unlock(2)
	p.Does(2, nothing)
	p.Sets(8, 1)
	p.Does(2, nothing)
	p.Words(0, 0, 0, 0, 0, 0, 0, 0, 1, 1)
	p.Does(2, released)
}

// A store is one whatever the word was.
func TestStoresWhateverItWasP14_1(t *testing.T) {
	for _, v := range locktest.Others(0) {
		p := newPair(t, 1, 5, 1)
		holds(p, 0)
		p.Calls(1)
		p.Does(1, nothing)
		for word := 4; word <= 6; word++ {
			p.Sets(word, v)
		}
		p.Does(1, nothing)
		p.Words(1, 0, 0, 1, v, v, 1)
		p.Does(1, nothing)
		p.Words(1, 0, 0, 1, 0, v, 1)
		p.Does(1, nothing)
		p.Words(1, 0, 0, 1, 0, 0, 1)
		p.Sets(2, v)
		p.Does(1, enq)
		p.Words(2, 0, v, 1, 0, 0, 1)
		p.Does(1, nothing)
		p.Words(2, 0, 2, 1, 0, 0, 1)
		p.Unlock(0)
		p.Does(0, nothing, nothing)
		p.Sets(3, v)
		p.Does(0, released)
		p.Words(2, 0, 2, 0, 1, 0, 1)
	}
}

// A number that a stranger stored, and whose words lie behind the port's, ends
// nothing: a store there, or a Cas, is none.
func TestNumbersOfNoNodeP14_1(t *testing.T) {
	for _, v := range []uint32{1000, 1 << 16, 1<<31 - 1, 1 << 31, 1<<31 + 1, 1<<32 - 2, 1<<32 - 1} {
		p := locktest.NewRow(t, 2, queue(1), locktest.Homes(8, 0), []int{5, 1})[1]
		p.Calls(0)
		p.Does(0, nothing, nothing, nothing, nothing)
		p.Sets(0, v)
		p.Does(0, enq, nothing, nothing, nothing)
		p.Words(1, 0, 0, 1, 0, 0, 0)
		p.Sets(1, 1)
		p.Does(0, granted)
		p.Sets(2, v)
		p.Unlock(0)
		p.Does(0, nothing, nothing, nothing)
		p.Words(1, 1, v, 0, 0, 0, 0)
		p.Does(0, nothing, nothing, nothing, nothing, nothing)
		p.Words(1, 1, v, 0, 0, 0, 0)
	}
}

// Over a port that was made ahead of the lock it has no words.
func TestPortWithoutItsWordsP14_1(t *testing.T) {
	p := plan.New(2)
	p.Word(1, 5)
	x, _ := p.Port()
	l, _ := abort.New(p, []int{3, 4}, 2)
	l.Use(x)
	for c := -1; c < 3; c++ {
		if got := l.Out(c); got != 0 {
			t.Errorf("Out(%d) = %d", c, got)
		}
	}
	l.Lock(1, -1)
	for _, want := range []api.Did{nothing, nothing, nothing, nothing, first} {
		if did := l.Step(1, 1, 0); did != want || l.Out(1) != 0 {
			t.Errorf("step %v, want %v; Out(1) = %d", did, want, l.Out(1))
		}
	}
	if w := x.Words(); !slices.Equal(w, []uint32{5}) {
		t.Errorf("words %v", w)
	}
}

func TestWhereTheWordsLieP14_1(t *testing.T) {
	for _, each := range []int{1, 2, 7, 8} {
		for _, before := range []int{0, 1, 5, 64} {
			for _, homes := range [][]int{{0}, {7}, {7, 0}, {3, 1, 4}, {1, 2, 3, 4, 5, 6, 7}, locktest.Homes(63, 2), locktest.Homes(64, 7)} {
				own := []int{homes[0]}
				for _, h := range homes {
					own = append(own, slices.Repeat([]int{h}, 3*each)...)
				}
				locktest.Lies(t, queue(each), before, homes, own, make([]uint32, 1+3*each*len(homes)))
			}
		}
	}
}

func TestHomesFromNoughtToSevenP14_1(t *testing.T) {
	for h := range api.MaxNodes {
		newPair(t, 1, h)
		newPair(t, 8, 7-h, h, 0)
	}
}

// Each of 64 contexts has its nodes, and their words, behind those of the one
// before it.
func TestEachHasItsNodesP14_1(t *testing.T) {
	for _, each := range []int{1, 8} {
		p := newPair(t, each, locktest.Homes(64, 3)...)
		want := make([]uint32, 1+3*64*each)
		word := func(c, which int) *uint32 { return &want[1+3*each*c+which] }
		holds(p, 0)
		want[0], *word(0, 2) = 1, 1
		for c := 1; c < 64; c++ {
			waits(p, c, -1)
			number := uint32(c*each) + 1
			want[0], *word(c-1, 1), *word(c, 2) = number, number, 1
			p.Words(want...)
		}
		for c := range 63 {
			hands(p, c)
			*word(c, 2), *word(c+1, 0) = 0, 1
			p.Words(want...)
			p.Does(c+1, granted)
		}
		leaves(p, 63)
	}
}

func TestAnyCallsP14_1(t *testing.T) {
	for i, k := range kinds() {
		for steps := range 3 {
			locktest.AnyCalls(t, k, 1000+10*i+steps)
		}
	}
}

// Few contexts for long: nodes are out and come back many times.
func TestAnyCallsOfFewP14_1(t *testing.T) {
	r := locktest.Numbers(14)
	for _, k := range kinds() {
		for n := 1; n <= 6; n++ {
			p := locktest.New(t, n, k, locktest.Homes(n, 5)...)
			for range 5000 {
				p.Any(&r)
			}
		}
	}
}

// At any ticks, which needn't rise, a look goes by the tick of its own step.
func TestAnyTicksP14_1(t *testing.T) {
	r := locktest.Numbers(41)
	ticks := []int{0, 1, 2, 3, 7, 8, 9, -1, -2, math.MinInt64, math.MaxInt64, 1 << 32}
	for _, k := range kinds() {
		p := locktest.New(t, 4, k, 1, 2, 3, 4)
		for range 5000 {
			p.Now = ticks[r.Below(len(ticks))]
			p.Any(&r)
		}
	}
}

func TestTwoLocksP14_1(t *testing.T) {
	for _, k := range kinds() {
		for steps := range 3 {
			locktest.RowInOnePlan(t, k, 1500+steps)
			locktest.PortsOfOnePlan(t, k, 1500+steps)
		}
	}
}

func TestUseOfOtherPortsP14_1(t *testing.T) {
	for _, k := range kinds() {
		for steps := range 3 {
			locktest.UseOfOtherPorts(t, k, 800+steps)
		}
	}
}

func TestOrderIsThatOfEnqsP14_1(t *testing.T) {
	for n := 1; n <= 16; n++ {
		locktest.GrantsInOrderOfEnqs(t, queue(1), n, 2000)
	}
}

// line is who got a place, and was neither granted the lock nor gave up yet.
type line []int

// sees takes in what a step of a context did: who is granted the lock must be
// the first in the line.
func (l *line) sees(p *locktest.Pair, c int, did api.Did) {
	p.Helper()
	if did.Enq {
		*l = append(*l, c)
	}
	switch at := slices.Index(*l, c); {
	case did.Event == api.Granted && at != 0:
		p.Fatalf("%d was granted the lock ahead of %v", c, *l)
	case did.Event == api.Granted, did.Event == api.TimedOut:
		*l = slices.Delete(*l, at, at+1)
	}
}

// free tells whether nobody has the lock.
func free(l locktest.Lock) bool {
	for c := range l.Len() {
		if s := l.State(c); s == api.Holding || s == api.Unlocking {
			return false
		}
	}
	return true
}

// goesOn does what a context does next: it calls, with that deadline, unlocks
// when it has the lock, and does a step.
func goesOn(p *locktest.Pair, c, deadline int) api.Did {
	p.Helper()
	switch p.Lock.State(c) {
	case api.Idle:
		p.CallsTill(c, deadline)
	case api.Holding:
		p.Unlock(c)
	}
	return p.Step(c, c, p.Now)
}

// Those that give up are no more in the order.
func TestOrderOfThoseThatStayP14_1(t *testing.T) {
	r := locktest.Numbers(142)
	for _, k := range kinds() {
		for _, n := range []int{2, 3, 5, 12} {
			p := locktest.New(t, n, k, locktest.Homes(n, 1)...)
			var queue line
			for p.Now = range 4000 {
				c, deadline := r.Below(n), -1
				if r.Below(3) > 0 {
					deadline = p.Now + r.Below(12*n)
				}
				queue.sees(p, c, goesOn(p, c, deadline))
			}
		}
	}
}

// Two contexts step in each order that there is, one of them with a deadline:
// one has the lock at a time, in the order of their swaps, both come to their
// ends, and no node is out then.
func TestEachOrderOfTwoP14_4(t *testing.T) {
	const long = 13
	for _, deadline := range []int{0, 8, 11} {
		for script := range 1 << long {
			p := newPair(t, 1, 0, 1)
			p.Calls(0)
			p.CallsTill(1, deadline)
			var queue line
			for i := range long + 24 {
				c := i % 2
				if i < long {
					c = script >> i & 1
				}
				if p.Lock.State(c) == api.Holding {
					p.Unlock(c)
				}
				p.Now = i
				did := p.Step(c, c, i)
				queue.sees(p, c, did)
				if did.Event == api.Granted && p.Lock.State(1-c) == api.Holding {
					t.Fatalf("script %b: %d was granted the lock while the other one had it", script, c)
				}
			}
			if p.Lock.State(0) != api.Idle || p.Lock.State(1) != api.Idle {
				t.Fatalf("script %b: states %d, %d", script, p.Lock.State(0), p.Lock.State(1))
			}
			p.Words(0)
			outs(p, 0, 0)
		}
	}
}

func TestByTurnsAllComeToTheirEndsP14_1(t *testing.T) {
	for _, n := range []int{1, 2, 5, 64} {
		locktest.ByTurns(t, queue(1), n, 3)
	}
}

// So do they with deadlines, which they have by turns too.
func TestByTurnsWithDeadlinesP14_4(t *testing.T) {
	for _, k := range kinds() {
		for _, n := range []int{1, 2, 5, 64} {
			p := locktest.New(t, n, k, locktest.Homes(n, 2)...)
			ends := make([]int, n)
			for p.Now = range 24 * n {
				for c := range n {
					if p.Lock.State(c) == api.Idle && ends[c] == 3 {
						continue
					}
					did := goesOn(p, c, p.Now+(c+ends[c])%7*n-1)
					if p.Lock.State(c) == api.Idle && did.Event != api.None {
						ends[c]++
					}
				}
			}
			for c := range n {
				if ends[c] != 3 {
					t.Fatalf("%d of %d: %d ends", c, n, ends[c])
				}
			}
			p.Words(0)
			outs(p, make([]int, n)...)
		}
	}
}

func TestHowManyContextsP14_1(t *testing.T) {
	locktest.HowManyContexts(t, queue(1))
	locktest.HowManyContexts(t, queue(8))
}

func TestEachCallInEachStateP14_1(t *testing.T) { locktest.EachCallInEachState(t, queue(2)) }

func TestNoSuchContextP14_1(t *testing.T) {
	locktest.NoSuchContext(t, queue(1))
	locktest.NoSuchContext(t, queue(8))
}

func TestStepOfIdleAndHoldingP14_1(t *testing.T) { locktest.StepOfIdleAndHolding(t, queue(1)) }

func TestAnyTickP14_1(t *testing.T) { locktest.AnyTick(t, queue(1)) }

func TestHomesStayTheAskersP14_1(t *testing.T) { locktest.HomesStayTheAskers(t, queue(2)) }

// A deadline below -1 is a wrong argument, also where the context is busy.
func TestWrongDeadlinesP14_1(t *testing.T) {
	for _, state := range locktest.States(false) {
		p := newPair(t, 1, 1, 1)
		p.Bring(1, state)
		for _, d := range []int{-2, -3, -64, -255, -256, math.MinInt32, -1 - 1<<32, -1 << 32, math.MinInt64} {
			if e := p.Call(1, d); e != api.ErrArg {
				t.Errorf("Lock(1, %d) in state %d = %d", d, state, e)
			}
		}
		want := api.ErrBusy
		if state == api.Idle {
			want = api.OK
		}
		if e := p.Call(1, 0); e != want {
			t.Errorf("Lock(1, 0) in state %d = %d", state, e)
		}
	}
}

func TestProbeIsNotTakenP14_1(t *testing.T) {
	for _, state := range locktest.States(false) {
		p := newPair(t, 1, 1, 1)
		p.Bring(1, state)
		for c := -2; c < 4; c++ {
			if e := p.Probe(c); e != api.ErrArg {
				t.Errorf("Probe(%d) in state %d = %d", c, state, e)
			}
		}
	}
}

func TestWrongHomesP14_1(t *testing.T) {
	for _, homes := range locktest.NoHomes() {
		for _, each := range []int{1, 8, 0, 9, -1} {
			locktest.Refuses(t, api.ErrArg, func(p *plan.Plan) (bool, api.Errno) {
				l, e := abort.New(p, homes, each)
				return l == nil, e
			})
		}
	}
}

func TestWrongNodesEachP14_1(t *testing.T) {
	for _, each := range []int{0, 9, -1, -8, 10, 16, 64, 255, 256, 257, 1<<32 + 1, 1 << 32, -1 << 32, math.MinInt64, math.MaxInt64, math.MinInt64 + 1} {
		for _, homes := range [][]int{{0}, {7, 0}, locktest.Homes(64, 1)} {
			locktest.Refuses(t, api.ErrConfig, func(p *plan.Plan) (bool, api.Errno) {
				l, e := abort.New(p, homes, each)
				return l == nil, e
			})
		}
	}
}

func TestOneAccessAStepP14_2(t *testing.T) {
	for _, k := range kinds() {
		for steps := range 3 {
			locktest.OneAccessAStep(t, k, 2000+steps)
		}
	}
}

func TestNoAccessButAStepsP14_2(t *testing.T) {
	locktest.NoAccessButAStep(t, queue(1))
	locktest.NoAccessButAStep(t, queue(8))
}

// Each step of a whole way has just one access, one that waits too, and one that
// goes by a node.
func TestEachStepHasItsAccessP14_2(t *testing.T) {
	p := newPair(t, 2, 1, 2)
	counts := func(want0, want1 int) {
		t.Helper()
		if a, b := p.Port.Accesses(0), p.Port.Accesses(1); a != want0 || b != want1 {
			t.Fatalf("accesses %d, %d, want %d, %d", a, b, want0, want1)
		}
	}
	holds(p, 0)
	counts(5, 0)
	waits(p, 1, 0)
	counts(5, 7)
	p.Does(1, timedOut)
	counts(5, 8)
	enters(p, 1, 1, 0)
	counts(5, 14)
	p.Unlock(0)
	p.Does(0, nothing, nothing, nothing)
	counts(8, 14)
	p.Does(0, nothing, nothing, nothing)
	counts(11, 14)
	p.Does(1, nothing, nothing)
	counts(11, 16)
	p.Does(0, nothing, nothing, released)
	counts(14, 16)
	p.Does(1, granted)
	counts(14, 17)
	leaves(p, 1)
	counts(14, 20)
}

// A tick that is one less than the deadline is too early; the deadline itself,
// and one more, are not.
func TestTicksAtTheDeadlineP14_3(t *testing.T) {
	for _, d := range []int{0, 1, 2, 63, 64, 1 << 31, 1<<32 - 1, 1 << 32, 1<<62 + 1, math.MaxInt64} {
		p := newPair(t, 1, 4, 2)
		holds(p, 0)
		waits(p, 1, -1)
		hands(p, 0)
		p.Does(1, granted)
		enters(p, 0, 0, d)
		p.Does(0, nothing)
		for _, early := range []int{d - 1, d - 2, d/2 - 1, -1, math.MinInt64} {
			p.Now = early
			p.Does(0, nothing, nothing)
		}
		p.Now = d
		p.Does(0, nothing, timedOut)
		if d == math.MaxInt64 {
			continue
		}
		p = newPair(t, 1, 4, 2)
		holds(p, 1)
		p.Now = d + 1
		enters(p, 0, 0, d)
		p.Does(0, nothing, nothing, timedOut)
	}
}

// Only a look asks for the tick: whatever it is at the other steps, none is left
// out, and nothing else comes of them.
func TestOnlyALookAsksForTheTickP14_3(t *testing.T) {
	p := newPair(t, 1, 4, 2)
	p.Now = 1000
	p.CallsTill(0, 3)
	p.Does(0, nothing, nothing, nothing, nothing, first)
	enters(p, 1, 0, 3)
	p.Does(1, nothing)
	p.Now = 2
	p.Does(1, nothing)
	p.Now = 3
	p.Does(1, nothing)
	p.Now = 2
	p.Does(1, timedOut)
	p.Now = 1000
	p.Unlock(0)
	p.Does(0, nothing, nothing, nothing, nothing, nothing, released)
	p.Words(0)
}

// A deadline is that of its call alone: the next call may have none.
func TestDeadlineIsItsCallsP14_3(t *testing.T) {
	p := newPair(t, 2, 4, 2, 1)
	holds(p, 0)
	waits(p, 1, 5)
	waits(p, 2, 8)
	p.Now = 7
	p.Does(2, nothing)
	givesUp(p, 1)
	enters(p, 1, 1, -1)
	p.Now = math.MaxInt64
	for range 100 {
		p.Does(1, nothing)
	}
	givesUp(p, 2)
	enters(p, 2, 1, math.MaxInt64)
	p.Now--
	p.Does(2, nothing, nothing)
}

func TestNeverWithoutADeadlineP14_3(t *testing.T) {
	p := newPair(t, 1, 4, 2)
	holds(p, 0)
	waits(p, 1, -1)
	for _, p.Now = range []int{-2, -1, 0, 1, 5, 1 << 32, math.MaxInt64, math.MinInt64} {
		p.Does(1, nothing, nothing, nothing)
	}
	hands(p, 0)
	p.Does(1, granted)
}

// TimedOut comes at ticks that rise never ahead of the deadline, and never to
// one without.
func TestNeverAheadOfTheDeadlineP14_3(t *testing.T) {
	r := locktest.Numbers(143)
	for _, each := range []int{1, 2, 8} {
		for _, n := range []int{2, 3, 5, 12} {
			p := plan.New(n)
			l, _ := abort.New(p, locktest.Homes(n, 0), each)
			x, _ := p.Port()
			l.Use(x)
			deadlines, gaveUp := make([]int, n), 0
			for now := range 20000 {
				c, deadline := r.Below(n), -1
				if r.Below(2) == 0 {
					deadline = now + r.Below(20*n)
				}
				if l.Lock(c, deadline) == api.OK {
					deadlines[c] = deadline
				}
				if r.Below(8) == 0 {
					l.Unlock(c)
				}
				if l.Step(c, c, now).Event != api.TimedOut {
					continue
				}
				gaveUp++
				if deadlines[c] == -1 || now < deadlines[c] {
					t.Fatalf("TimedOut at %d, the deadline is %d", now, deadlines[c])
				}
			}
			if gaveUp < 20 {
				t.Errorf("%d contexts, %d each: only %d gave up", n, each, gaveUp)
			}
		}
	}
}

// calm brings all calls to their ends, by turns, and nobody has the lock then.
func calm(p *locktest.Pair) {
	p.Helper()
	n := p.Lock.Len()
	for range 64 * n {
		if p.AllIdle() {
			return
		}
		for c := range n {
			if p.Lock.State(c) != api.Idle {
				goesOn(p, c, -1)
			}
		}
	}
	p.Fatalf("not all of %d come to their ends", n)
}

// Whatever was done, all nodes are back when nobody has the lock and no call is
// under way; and nobody is refused then.
func TestAllNodesAreBackP14_4(t *testing.T) {
	r := locktest.Numbers(144)
	for i, k := range kinds() {
		each := []int{1, 2, 3, 8}[i]
		for _, n := range []int{1, 2, 3, 7, 64} {
			p := locktest.New(t, n, k, locktest.Homes(n, 3)...)
			for range 8 {
				for range r.Below(60 * min(n, 8)) {
					p.Any(&r)
				}
				calm(p)
				p.Words(0)
				outs(p, make([]int, n)...)
				words := p.Port.Words()[p.First:]
				for node := range n * each {
					if out := words[3+3*node]; out != 0 {
						t.Fatalf("the node %d is out: %d", node+1, out)
					}
				}
			}
			for c := range n {
				holds(p, c)
				leaves(p, c)
			}
		}
	}
}

// Nobody is refused one who didn't give up as often as it has nodes since all
// nodes were back.
func TestNodesAreEnoughP14_4(t *testing.T) {
	r := locktest.Numbers(145)
	for i, k := range kinds() {
		each, refusals := []int{1, 2, 3, 8}[i], 0
		for _, n := range []int{2, 3, 5} {
			p := locktest.New(t, n, k, locktest.Homes(n, 3)...)
			gaveUp := make([]int, n)
			for range 6000 {
				if free(p.Lock) && p.Port.Words()[p.First] == 0 {
					clear(gaveUp)
				}
				c, deadline := r.Below(n), -1
				if c != 0 {
					p.Now++
					deadline = p.Now + r.Below(4)
				} else if r.Below(12) > 0 && p.Lock.State(0) == api.Holding {
					continue
				}
				switch did := goesOn(p, c, deadline); did.Event {
				case api.TimedOut:
					gaveUp[c]++
				case api.Refused:
					refusals++
					if gaveUp[c] < each {
						t.Fatalf("%d was refused a node, and gave up %d times of %d", c, gaveUp[c], each)
					}
				}
			}
		}
		if refusals == 0 {
			t.Errorf("%d each: nobody was refused", each)
		}
	}
}

// The accesses are those of who steps; numbers and words are the context's.
func TestStepsByOtherThreadsP14_1(t *testing.T) {
	p := locktest.New(t, 8, queue(1), 1, 2)
	does := func(t, as int, want api.Did) {
		p.Helper()
		if got := p.Step(t, as, 0); got != want {
			p.Fatalf("step of %d by %d: %v, want %v", t, as, got, want)
		}
	}
	p.Calls(1)
	for as, want := range []api.Did{nothing, nothing, nothing, nothing, first} {
		does(1, as, want)
	}
	p.Words(2, 0, 0, 0, 0, 0, 1)
	p.CallsTill(0, 0)
	for as, want := range []api.Did{nothing, nothing, nothing, nothing, enq, nothing, nothing, timedOut} {
		does(0, as, want)
	}
	p.Words(1, 2, 0, 1, 0, 1, 1)
	p.Unlock(1)
	for as, want := range []api.Did{nothing, nothing, nothing, nothing, nothing, released} {
		does(1, 7-as, want)
	}
	p.Words(0, 2, 0, 0, 0, 1, 0)
	for as, want := range [][2]int{{2, 0}, {2, 2}, {3, 3}, {3, 3}, {3, 2}, {2, 2}, {2, 1}, {2, 1}} {
		if got := [2]int{p.Port.Accesses(as), p.Port.Writes(as)}; got != want {
			t.Errorf("accesses and writes of %d: %v, want %v", as, got, want)
		}
	}
}

func TestWhoeverStepsP14_1(t *testing.T) { locktest.WhoeverSteps(t, queue(2)) }

// One thread alone does all steps of all contexts.
func TestOneThreadStepsForAllP14_1(t *testing.T) {
	p := locktest.New(t, 1, queue(1), locktest.Homes(64, 0)...)
	steps := func(c int, want ...api.Did) {
		p.Helper()
		for _, did := range want {
			if got := p.Step(c, 0, p.Now); got != did {
				p.Fatalf("step of %d: %v, want %v", c, got, did)
			}
		}
	}
	p.Calls(63)
	steps(63, nothing, nothing, nothing, nothing, first)
	for c := range 63 {
		p.CallsTill(c, 9)
		steps(c, nothing, nothing, nothing, nothing, enq, nothing, nothing)
	}
	p.Now = 9
	for c := 1; c < 63; c += 2 {
		steps(c, nothing, timedOut)
	}
	p.Unlock(63)
	steps(63, nothing, nothing, released)
	for c := 0; c < 62; c += 2 {
		steps(c, granted)
		p.Unlock(c)
		steps(c, nothing, nothing, nothing, nothing, nothing, released)
	}
	steps(62, granted)
	p.Unlock(62)
	steps(62, nothing, nothing, released)
	p.Words(0)
	outs(p, make([]int, 64)...)
}
