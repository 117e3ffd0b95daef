package clh_test

import (
	"slices"
	"testing"

	"weighlock/api"
	"weighlock/clh"
	"weighlock/locktest"
	"weighlock/plan"
	"weighlock/port"
)

// What steps do.
var (
	nothing  = api.Did{}
	enq      = api.Did{Enq: true}
	granted  = api.Did{Event: api.Granted}
	released = api.Did{Event: api.Released}
	alone    = api.Did{Event: api.Alone}
	company  = api.Did{Event: api.Company}
)

// model is what the chapter says, in plain words: the address of each node's
// flag, each context's node, the node that is ahead of it, and which of the
// three steps it is at.
type model struct {
	*port.Port
	tail         int
	flags        []int
	nodes, ahead []uint32
	at           []int
}

func (m *model) Use(p *port.Port) { m.Port = p }

func (m *model) Step(state, t, as int) api.Did {
	own := m.nodes[t]
	switch {
	case state == api.Unlocking:
		m.Store(as, m.flags[own], 0)
		m.nodes[t], m.at[t] = m.ahead[t], 1
		return released
	case state == api.Probing && m.Load(as, m.tail) == own:
		return alone
	case state == api.Probing:
		return company
	case m.at[t] == 1:
		m.Store(as, m.flags[own], 1)
		m.at[t] = 2
	case m.at[t] == 2:
		m.ahead[t] = m.Swap(as, m.tail, own)
		m.at[t] = 3
		return enq
	case m.at[t] == 3 && m.Load(as, m.flags[m.ahead[t]]) == 0:
		return granted
	}
	return nothing
}

// node is a context's node.
func (m *model) node(t int) int {
	if 0 <= t && t < len(m.nodes) {
		return int(m.nodes[t])
	}
	return -1
}

// newModel lays the words, one by one.
func newModel(p *plan.Plan, homes []int) locktest.Model {
	n := len(homes)
	m := &model{tail: p.Word(homes[0], 0), ahead: make([]uint32, n), at: slices.Repeat([]int{1}, n)}
	m.flags = append(m.flags, p.Word(homes[0], 0))
	for i, h := range homes {
		m.flags = append(m.flags, p.Word(h, 0))
		m.nodes = append(m.nodes, uint32(i)+1)
	}
	return m
}

// queue is the kind of these locks.
func queue() locktest.Kind {
	return locktest.Kind{
		Probed: true,
		Lay:    func(p *plan.Plan, homes []int) (locktest.Lock, api.Errno) { return clh.New(p, homes) },
		Model:  newModel,
		More: func(l locktest.Lock, m locktest.Model, t int) (int, int) {
			return l.(*clh.Lock).Node(t), m.(*model).node(t)
		},
	}
}

// newPair is one of them, of contexts with these homes.
func newPair(t *testing.T, homes ...int) *locktest.Pair {
	t.Helper()
	return locktest.New(t, max(len(homes), 2), queue(), homes...)
}

// enters brings an idle context to its Enq.
func enters(p *locktest.Pair, t int) {
	p.Helper()
	p.Calls(t)
	p.Does(t, nothing, enq)
}

// leaves brings a context that has the lock to its end.
func leaves(p *locktest.Pair, t int) {
	p.Helper()
	p.Unlock(t)
	p.Does(t, released)
}

// probes asks a context that has the lock whether anybody is behind.
func probes(p *locktest.Pair, t int, want api.Did) {
	p.Helper()
	p.Probe(t)
	p.Does(t, want)
}

// nodes says what nodes the contexts must have.
func nodes(p *locktest.Pair, want ...int) {
	p.Helper()
	if got := allNodes(p); !slices.Equal(got, want) {
		p.Fatalf("the nodes are %v, want %v", got, want)
	}
}

// allNodes is the node of each context.
func allNodes(p *locktest.Pair) []int {
	l, all := p.Lock.(*clh.Lock), []int(nil)
	for c := range l.Len() {
		all = append(all, l.Node(c))
	}
	return all
}

func TestExampleP12_1(t *testing.T) {
	p := newPair(t, 0)
	nodes(p, 1)
	p.Calls(0)
	p.Does(0, nothing, enq, granted)
	nodes(p, 1)
	p.Unlock(0)
	nodes(p, 1)
	p.Does(0, released)
	nodes(p, 0)
}

// A whole way of a context, alone, with all words behind each step.
func TestWholeWayP12_1(t *testing.T) {
	p := newPair(t, 3, 5, 1)
	p.Words(0, 0, 0, 0, 0)
	p.Calls(1)
	p.Words(0, 0, 0, 0, 0)
	p.Does(1, nothing)
	p.Words(0, 0, 0, 1, 0)
	p.Does(1, enq)
	p.Words(2, 0, 0, 1, 0)
	p.Does(1, granted)
	p.Words(2, 0, 0, 1, 0)
	p.Probe(1)
	p.Words(2, 0, 0, 1, 0)
	p.Does(1, alone)
	p.Words(2, 0, 0, 1, 0)
	nodes(p, 1, 2, 3)
	p.Unlock(1)
	p.Words(2, 0, 0, 1, 0)
	nodes(p, 1, 2, 3)
	p.Does(1, released)
	p.Words(2, 0, 0, 0, 0)
	nodes(p, 1, 0, 3)
}

// A whole way of one who waits, with all words behind each step.
func TestWholeWayBehindAnotherP12_1(t *testing.T) {
	p := newPair(t, 3, 5, 1)
	enters(p, 2)
	p.Does(2, granted)
	p.Words(3, 0, 0, 0, 1)
	p.Calls(0)
	p.Does(0, nothing)
	p.Words(3, 0, 1, 0, 1)
	p.Does(0, enq)
	p.Words(1, 0, 1, 0, 1)
	p.Does(0, nothing, nothing)
	p.Unlock(2)
	p.Does(0, nothing)
	p.Words(1, 0, 1, 0, 1)
	p.Does(2, released)
	p.Words(1, 0, 1, 0, 0)
	nodes(p, 1, 2, 0)
	p.Does(0, granted)
	p.Words(1, 0, 1, 0, 0)
	leaves(p, 0)
	p.Words(1, 0, 0, 0, 0)
	nodes(p, 3, 2, 0)
	p.Calls(2)
	p.Does(2, nothing)
	p.Words(1, 1, 0, 0, 0)
	p.Does(2, enq)
	p.Words(0, 1, 0, 0, 0)
	p.Does(2, granted)
	leaves(p, 2)
	p.Words(0, 0, 0, 0, 0)
	nodes(p, 3, 2, 1)
}

// One who has stored its flag has no place yet: others pass it by.
func TestStoredButNotSwappedP12_1(t *testing.T) {
	p := newPair(t, 0, 1, 2)
	p.Calls(0)
	p.Does(0, nothing)
	enters(p, 1)
	p.Words(2, 0, 1, 1, 0)
	p.Does(1, granted)
	probes(p, 1, alone)
	enters(p, 2)
	probes(p, 1, company)
	leaves(p, 1)
	p.Does(2, granted)
	probes(p, 2, alone)
	p.Words(3, 0, 1, 0, 1)
	p.Does(0, enq)
	probes(p, 2, company)
	p.Does(0, nothing)
	leaves(p, 2)
	p.Does(0, granted)
	p.Words(1, 0, 1, 0, 0)
	leaves(p, 0)
	p.Words(1, 0, 0, 0, 0)
	nodes(p, 3, 0, 2)
}

func TestWaitsTillItsTurnP12_1(t *testing.T) {
	p := newPair(t, 0, 1, 2)
	for c := range 3 {
		enters(p, c)
	}
	for range 2000 {
		p.Does(2, nothing)
	}
	p.Does(0, granted)
	for range 2000 {
		p.Does(2, nothing)
	}
	leaves(p, 0)
	p.Does(2, nothing)
	p.Does(1, granted)
	p.Does(2, nothing)
	leaves(p, 1)
	p.Does(2, granted)
	leaves(p, 2)
	if got := p.Port.Accesses(2); got != 2+4002+2 {
		t.Errorf("%d accesses", got)
	}
}

// Who is granted the lock has waited for the one ahead, not for all: the flags
// of others are nothing to it.
func TestLooksAtTheOneAheadP12_1(t *testing.T) {
	p := newPair(t, 0, 1, 2, 3)
	for _, c := range []int{3, 1, 0, 2} {
		enters(p, c)
	}
	for i, c := range []int{3, 1, 0, 2} {
		for _, d := range []int{3, 1, 0, 2}[i+1:] {
			p.Does(d, nothing)
		}
		p.Does(c, granted)
		leaves(p, c)
	}
	nodes(p, 2, 4, 1, 0)
	p.Words(3, 0, 0, 0, 0, 0)
}

// Somebody is behind from the swap on, not from the flag on.
func TestProbeP12_1(t *testing.T) {
	p := newPair(t, 4, 4, 4)
	enters(p, 1)
	p.Does(1, granted)
	probes(p, 1, alone)
	probes(p, 1, alone)
	p.Calls(2)
	probes(p, 1, alone)
	p.Does(2, nothing)
	probes(p, 1, alone)
	p.Probe(1)
	p.Does(2, enq)
	p.Does(1, company)
	probes(p, 1, company)
	p.Does(2, nothing)
	enters(p, 0)
	probes(p, 1, company)
	leaves(p, 1)
	p.Does(2, granted)
	probes(p, 2, company)
	leaves(p, 2)
	p.Does(0, granted)
	probes(p, 0, alone)
	p.Probe(0)
	p.Calls(1)
	p.Does(1, nothing, enq)
	p.Does(0, company)
	leaves(p, 0)
	p.Does(1, granted)
	probes(p, 1, alone)
}

// One alone has two nodes by turns.
func TestNodesOfOneAloneP12_1(t *testing.T) {
	p := newPair(t, 0, 7)
	for i := range 40 {
		own := []int{2, 0}[i%2]
		nodes(p, 1, own)
		enters(p, 1)
		p.Does(1, granted)
		nodes(p, 1, own)
		leaves(p, 1)
		p.Words(uint32(own), 0, 0, 0)
	}
}

// Nodes go from each one to the one behind it.
func TestNodesGoOnP12_1(t *testing.T) {
	p := newPair(t, 1, 2, 3)
	for _, want := range [][]int{{0, 1, 2}, {3, 0, 1}, {2, 3, 0}, {1, 2, 3}, {0, 1, 2}} {
		for c := range 3 {
			enters(p, c)
		}
		for c := range 3 {
			p.Does(c, granted)
			leaves(p, c)
		}
		nodes(p, want...)
		p.Words(uint32(6-want[0]-want[1]-want[2]), 0, 0, 0, 0)
	}
}

// Over many calls each context has each node.
func TestEachHasEachNodeP12_1(t *testing.T) {
	r := locktest.Numbers(12)
	p := newPair(t, 0, 1, 2, 3, 4)
	var had [5][6]bool
	for range 500 {
		c := r.Below(5)
		p.Bring(c, api.Unlocking)
		p.Until(c, api.Released)
		for d, node := range allNodes(p) {
			had[d][node] = true
		}
	}
	for c, nodes := range had {
		if slices.Contains(nodes[:], false) {
			t.Errorf("%d had these nodes: %v", c, nodes)
		}
	}
}

// A step goes by what the words are, whoever stored it there: a flag that isn't
// 0 is one that is up.
func TestGoesByTheWordsP12_1(t *testing.T) {
	for ahead := range uint32(4) {
		p := newPair(t, 5, 1, 1)
		p.Calls(1)
		p.Does(1, nothing)
		p.Sets(0, ahead)
		p.Sets(1+int(ahead), 1)
		p.Does(1, enq)
		p.Sets(0, 9)
		for _, v := range []uint32{1, 2, 3, 1 << 8, 1 << 16, 1 << 31, 1<<32 - 1} {
			p.Sets(1+int(ahead), v)
			p.Does(1, nothing)
		}
		for flag := range 4 {
			p.Sets(1+flag, 7)
		}
		p.Sets(1+int(ahead), 0)
		p.Does(1, granted)
		for bit := range 32 {
			p.Sets(0, 2^1<<bit)
			probes(p, 1, company)
		}
		p.Sets(0, 2)
		probes(p, 1, alone)
		leaves(p, 1)
		nodes(p, 1, int(ahead), 3)
	}
}

// Storing its flag, and taking it down, is that whatever the flag was.
func TestStoresWhateverItWasP12_1(t *testing.T) {
	for _, v := range []uint32{0, 1, 2, 1 << 31, 1<<32 - 1} {
		p := newPair(t, 5, 1)
		p.Sets(2, v)
		p.Calls(0)
		p.Does(0, nothing)
		p.Words(0, 0, 1, 0)
		p.Does(0, enq, granted)
		p.Sets(2, v)
		leaves(p, 0)
		p.Words(1, 0, 0, 0)
	}
}

func TestWhereTheWordsLieP12_1(t *testing.T) {
	for _, before := range []int{0, 1, 5, 64} {
		for _, homes := range [][]int{{0}, {7}, {7, 0}, {3, 1, 4}, {1, 2, 3, 4, 5, 6, 7}, locktest.Homes(63, 2), locktest.Homes(64, 7)} {
			lies(t, before, homes)
		}
	}
}

// lies asks where the words of a lock lie that is laid behind some others.
func lies(t *testing.T, before int, homes []int) {
	t.Helper()
	own := append([]int{homes[0], homes[0]}, homes...)
	l := locktest.Lies(t, queue(), before, homes, own, make([]uint32, len(own)))
	for c := range homes {
		if got := l.(*clh.Lock).Node(c); got != c+1 {
			t.Fatalf("%d of %d: node %d", c, len(homes), got)
		}
	}
}

func TestHomesFromNoughtToSevenP12_1(t *testing.T) {
	for h := range api.MaxNodes {
		newPair(t, h)
		newPair(t, 7-h, h, 0)
	}
}

func TestNodeOfNoContextP12_1(t *testing.T) {
	for _, n := range []int{1, 2, 3, 63, 64} {
		l, _ := clh.New(plan.New(1), locktest.Homes(n, 0))
		for _, c := range locktest.NoContexts(n) {
			if got := l.Node(c); got != -1 {
				t.Errorf("%d contexts: Node(%d) = %d", n, c, got)
			}
		}
	}
}

// Any thread of the port does a context's steps: the accesses are its own, the
// node is the context's.
func TestStepsByOtherThreadsP12_1(t *testing.T) {
	p := locktest.New(t, 6, queue(), 1, 2)
	p.Calls(0)
	for _, as := range []int{5, 4, 3} {
		p.Step(0, as, 0)
	}
	p.Probe(0)
	p.Step(0, 2, 0)
	p.Unlock(0)
	p.Step(0, 1, 0)
	nodes(p, 0, 2)
	for as, want := range [][2]int{{0, 0}, {1, 1}, {1, 0}, {1, 0}, {1, 1}, {1, 1}} {
		if got := [2]int{p.Port.Accesses(as), p.Port.Writes(as)}; got != want {
			t.Errorf("accesses and writes of %d: %v, want %v", as, got, want)
		}
	}
}

func TestAnyCallsP12_1(t *testing.T) {
	for steps := range 8 {
		locktest.AnyCalls(t, queue(), 1000+steps)
	}
}

func TestTwoLocksP12_1(t *testing.T) {
	for steps := range 8 {
		locktest.RowInOnePlan(t, queue(), 1500+steps)
		locktest.PortsOfOnePlan(t, queue(), 1500+steps)
	}
}

func TestUseOfOtherPortsP12_1(t *testing.T) {
	for steps := range 8 {
		locktest.UseOfOtherPorts(t, queue(), 500+steps)
	}
}

// Whoever swapped first is granted the lock first, whoever called or stored its
// flag first, and whoever looks first.
func TestOrderIsThatOfEnqsP12_1(t *testing.T) {
	for n := 1; n <= 16; n++ {
		locktest.GrantsInOrderOfEnqs(t, queue(), n, 2000)
	}
}

func TestByTurnsAllComeToTheirEndsP12_1(t *testing.T) {
	for _, n := range []int{1, 2, 5, 64} {
		locktest.ByTurns(t, queue(), n, 3)
	}
}

func TestHowManyContextsP12_1(t *testing.T) { locktest.HowManyContexts(t, queue()) }

func TestEachCallInEachStateP12_1(t *testing.T) { locktest.EachCallInEachState(t, queue()) }

func TestDeadlinesAreNotTakenP12_1(t *testing.T) { locktest.NoDeadlines(t, queue()) }

func TestNoSuchContextP12_1(t *testing.T) { locktest.NoSuchContext(t, queue()) }

func TestStepOfIdleAndHoldingP12_1(t *testing.T) { locktest.StepOfIdleAndHolding(t, queue()) }

func TestAnyTickP12_1(t *testing.T) { locktest.AnyTick(t, queue()) }

func TestHomesStayTheAskersP12_1(t *testing.T) { locktest.HomesStayTheAskers(t, queue()) }

func TestWrongHomesP12_1(t *testing.T) {
	for _, homes := range locktest.NoHomes() {
		locktest.Refuses(t, api.ErrArg, func(p *plan.Plan) (bool, api.Errno) {
			l, e := clh.New(p, homes)
			return l == nil, e
		})
	}
}

func TestOneAccessAStepP12_2(t *testing.T) {
	for steps := range 4 {
		locktest.OneAccessAStep(t, queue(), 2000+steps)
	}
}

func TestNoAccessButAStepsP12_2(t *testing.T) { locktest.NoAccessButAStep(t, queue()) }

// movesOn asks that no two contexts have one node, and that the flag of a node
// that an Idle context has is 0.
func movesOn(p *locktest.Pair) {
	p.Helper()
	all, flags := allNodes(p), p.Port.Words()[p.First+1:][:p.Lock.Len()+1]
	for c, node := range all {
		if node < 0 || node >= len(flags) || slices.Index(all, node) != c {
			p.Fatalf("the nodes are %v", all)
		}
		if p.Lock.State(c) == api.Idle && flags[node] != 0 {
			p.Fatalf("%d is idle; the flag of its node %d is %d", c, node, flags[node])
		}
	}
}

func TestNodesMoveOnP12_3(t *testing.T) {
	r := locktest.Numbers(123)
	for _, n := range []int{1, 2, 3, 4, 7, 16, 64} {
		p := newPair(t, locktest.Homes(n, 1)...)
		for range 2000 {
			p.Any(&r)
			movesOn(p)
		}
	}
}

// Each context's calls follow each other, so that nodes go on and on.
func TestNodesMoveOnWithoutRestP12_3(t *testing.T) {
	r := locktest.Numbers(321)
	for _, n := range []int{1, 2, 3, 5, 8} {
		p := newPair(t, locktest.Homes(n, 0)...)
		grants := 0
		for range 3000 {
			c := r.Below(n)
			switch p.Lock.State(c) {
			case api.Idle:
				p.Calls(c)
			case api.Holding:
				grants++
				p.Unlock(c)
			}
			p.Step(c, c, 0)
			movesOn(p)
		}
		if grants < 100 {
			t.Errorf("%d contexts: only %d grants", n, grants)
		}
	}
}

// Behind all calls the one node that is nobody's is the last one's, and all
// flags are 0.
func TestNodesAreAtRestP12_3(t *testing.T) {
	r := locktest.Numbers(213)
	for _, n := range []int{1, 2, 5, 64} {
		p := newPair(t, locktest.Homes(n, 4)...)
		for range 200 {
			c := r.Below(n)
			p.Bring(c, api.Unlocking)
			p.Until(c, api.Released)
			movesOn(p)
			nobodys := n * (n + 1) / 2
			for _, node := range allNodes(p) {
				nobodys -= node
			}
			p.Words(append([]uint32{uint32(nobodys)}, make([]uint32, n+1)...)...)
		}
	}
}
