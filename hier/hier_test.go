package hier_test

import (
	"slices"
	"testing"

	"weighlock/api"
	"weighlock/hier"
	"weighlock/locktest"
	"weighlock/plan"
	"weighlock/port"
)

// What steps do. leads: it is granted the lock, and its node's time begins.
var (
	nothing  = api.Did{}
	enq      = api.Did{Enq: true}
	arrive   = api.Did{Arrive: true}
	granted  = api.Did{Event: api.Granted}
	leads    = api.Did{Event: api.Granted, Lead: true}
	released = api.Did{Event: api.Released}
)

// nobodys is the word of the last node at first.
const nobodys = 1<<32 - 4

// free is the word of a node of this cluster that doesn't wait, and isn't
// spliced.
func free(cluster int) uint32 { return 4 * uint32(cluster) }

// busy is the same, but that it waits.
func busy(cluster int) uint32 { return free(cluster) + 2 }

// model is what the chapter says, in plain words: the addresses of the clusters'
// tails and of the nodes' words, each context's cluster and node, the node that
// is ahead of it, the last one of its batch, what that one's word or its own was,
// and which of the steps of its call it is at.
type model struct {
	*port.Port
	tail, clusters         []int
	words                  []int
	node, ahead, last, was []uint32
	all                    int
	at                     []int
}

func (m *model) Use(p *port.Port) { m.Port = p }

func (m *model) Step(state, t, as int) api.Did {
	steps := m.unlock
	if state == api.Locking {
		steps = m.lock
	}
	did := steps(t, as, m.words[m.node[t]])
	if did.Event != api.None {
		m.at[t] = 1
	}
	return did
}

// lock is a step of a Lock.
func (m *model) lock(t, as, own int) api.Did {
	c := m.clusters[t]
	switch m.at[t] {
	case 1:
		m.Store(as, own, uint32(4*c+2))
	case 2:
		m.ahead[t] = m.Swap(as, m.tail[c], m.node[t])
		m.at[t] = 3
		if m.ahead[t] == 0 {
			m.at[t] = 4
		}
		return enq
	case 3:
		w := m.Load(as, m.words[m.ahead[t]])
		if int(w/4) == c && w%4 == 0 {
			return granted
		}
		if int(w/4) == c && w%4 == 2 {
			return nothing
		}
	case 4:
		m.last[t] = m.Load(as, m.tail[c])
	case 5:
		m.ahead[t] = m.Swap(as, m.all, m.last[t])
		m.at[t] = 6
		return arrive
	case 6:
		m.was[t] = m.Load(as, m.words[m.last[t]])
	case 7:
		if !m.Cas(as, m.words[m.last[t]], m.was[t], m.was[t]/2*2+1) {
			m.at[t] = 6
			return nothing
		}
	case 8:
		if m.Load(as, m.words[m.ahead[t]])/2%2 == 0 {
			return leads
		}
		return nothing
	}
	m.at[t]++
	return nothing
}

// unlock is a step of an Unlock.
func (m *model) unlock(t, as, own int) api.Did {
	if m.at[t] == 1 {
		m.was[t] = m.Load(as, own)
		m.at[t] = 2
		return nothing
	}
	m.at[t] = 1
	if m.Cas(as, own, m.was[t], m.was[t]/4*4+m.was[t]%2) {
		m.node[t] = m.ahead[t]
		return released
	}
	return nothing
}

// of is a context's node.
func (m *model) of(t int) int {
	if 0 <= t && t < len(m.node) {
		return int(m.node[t])
	}
	return -1
}

// newModel lays the words, one by one. There is no node 0.
func newModel(p *plan.Plan, homes []int) *model {
	n := len(homes)
	m := &model{all: p.Word(homes[0], uint32(n)+1), clusters: slices.Clone(homes), words: []int{-1}, at: slices.Repeat([]int{1}, n)}
	m.ahead, m.last, m.was = make([]uint32, n), make([]uint32, n), make([]uint32, n)
	for c := range 8 {
		m.tail = append(m.tail, p.Word(c, 0))
	}
	for i, h := range homes {
		m.words = append(m.words, p.Word(h, 0))
		m.node = append(m.node, uint32(i)+1)
	}
	m.words = append(m.words, p.Word(homes[0], nobodys))
	return m
}

// queue is the kind of these locks, of contexts that are in these clusters by
// turns; in all of them, if none are named.
func queue(clusters ...int) locktest.Kind {
	k := locktest.Kind{
		Lay:   func(p *plan.Plan, homes []int) (locktest.Lock, api.Errno) { return hier.New(p, homes) },
		Model: func(p *plan.Plan, homes []int) locktest.Model { return newModel(p, homes) },
		More: func(l locktest.Lock, m locktest.Model, t int) (int, int) {
			return l.(interface{ Node(t int) int }).Node(t), m.(interface{ of(t int) int }).of(t)
		},
	}
	if len(clusters) > 0 {
		k.Homes = func(n, first int) []int { return locktest.Within(n, first, clusters) }
	}
	return k
}

// kinds are locks of contexts in these clusters, and those that other locks are
// tried with.
func kinds() []locktest.Kind {
	all := []locktest.Kind{queue()}
	for _, c := range locktest.Nodes() {
		all = append(all, queue(c...))
	}
	return all
}

// newPair is a lock of contexts with these homes.
func newPair(t *testing.T, homes ...int) *locktest.Pair {
	t.Helper()
	return locktest.New(t, max(len(homes), 2), queue(), homes...)
}

// tails are the clusters' tails.
type tails [8]uint32

// words says what all words of a lock must be.
func words(p *locktest.Pair, all uint32, each tails, nodes ...uint32) {
	p.Helper()
	p.Words(slices.Concat([]uint32{all}, each[:], nodes)...)
}

// set stores something into a node's word, which nobody of the lock does.
func set(p *locktest.Pair, node int, v uint32) { p.Sets(8+node, v) }

// nodes says what nodes the contexts must have.
func nodes(p *locktest.Pair, want ...int) {
	p.Helper()
	if got := allNodes(p); !slices.Equal(got, want) {
		p.Fatalf("the nodes are %v, want %v", got, want)
	}
}

// allNodes is the node of each context.
func allNodes(p *locktest.Pair) []int {
	l, all := p.Lock.(*hier.Lock), []int(nil)
	for c := range l.Len() {
		all = append(all, l.Node(c))
	}
	return all
}

// enters brings an idle context to its Enq.
func enters(p *locktest.Pair, t int) {
	p.Helper()
	p.Calls(t)
	p.Does(t, nothing, enq)
}

// gathers brings one that is the first one of its batch, and knows it, to its
// Arrive.
func gathers(p *locktest.Pair, t int) {
	p.Helper()
	p.Does(t, nothing, arrive)
}

// splices marks the last one of its batch, behind its Arrive.
func splices(p *locktest.Pair, t int) {
	p.Helper()
	p.Does(t, nothing, nothing)
}

// arrives brings an idle context that finds nobody in its cluster to where it
// looks at the node ahead.
func arrives(p *locktest.Pair, t int) {
	p.Helper()
	enters(p, t)
	gathers(p, t)
	splices(p, t)
}

// arrivesAgain does so where somebody was in its cluster, but isn't any more.
func arrivesAgain(p *locktest.Pair, t int) {
	p.Helper()
	enters(p, t)
	p.Does(t, nothing)
	gathers(p, t)
	splices(p, t)
}

// leaves brings a context that has the lock to its end.
func leaves(p *locktest.Pair, t int) {
	p.Helper()
	p.Unlock(t)
	p.Does(t, nothing, released)
}

func TestExampleP15_1(t *testing.T) {
	for home := range api.MaxNodes {
		p := newPair(t, home)
		p.Calls(0)
		p.Does(0, nothing, enq, nothing, arrive, nothing, nothing, leads)
	}
}

// A whole way of a context, alone, with all words behind each step, and another
// one with the node that was ahead.
func TestWholeWayP15_1(t *testing.T) {
	p := newPair(t, 3, 5, 1)
	words(p, 4, tails{}, 0, 0, 0, nobodys)
	p.Calls(1)
	words(p, 4, tails{}, 0, 0, 0, nobodys)
	p.Does(1, nothing)
	words(p, 4, tails{}, 0, busy(5), 0, nobodys)
	p.Does(1, enq)
	words(p, 4, tails{5: 2}, 0, busy(5), 0, nobodys)
	p.Does(1, nothing)
	words(p, 4, tails{5: 2}, 0, busy(5), 0, nobodys)
	p.Does(1, arrive)
	words(p, 2, tails{5: 2}, 0, busy(5), 0, nobodys)
	p.Does(1, nothing)
	words(p, 2, tails{5: 2}, 0, busy(5), 0, nobodys)
	p.Does(1, nothing)
	words(p, 2, tails{5: 2}, 0, busy(5)+1, 0, nobodys)
	p.Does(1, leads)
	nodes(p, 1, 2, 3)
	p.Unlock(1)
	p.Does(1, nothing)
	words(p, 2, tails{5: 2}, 0, busy(5)+1, 0, nobodys)
	nodes(p, 1, 2, 3)
	p.Does(1, released)
	words(p, 2, tails{5: 2}, 0, free(5)+1, 0, nobodys)
	nodes(p, 1, 4, 3)
	p.Calls(1)
	p.Does(1, nothing)
	words(p, 2, tails{5: 2}, 0, free(5)+1, 0, busy(5))
	p.Does(1, enq)
	words(p, 2, tails{5: 4}, 0, free(5)+1, 0, busy(5))
	p.Does(1, nothing)
	gathers(p, 1)
	words(p, 4, tails{5: 4}, 0, free(5)+1, 0, busy(5))
	splices(p, 1)
	words(p, 4, tails{5: 4}, 0, free(5)+1, 0, busy(5)+1)
	p.Does(1, leads)
	leaves(p, 1)
	words(p, 4, tails{5: 4}, 0, free(5)+1, 0, free(5)+1)
	nodes(p, 1, 2, 3)
}

// The first one of its cluster, with somebody of another cluster ahead.
func TestBehindAnotherClusterP15_1(t *testing.T) {
	p := newPair(t, 0, 7)
	arrives(p, 0)
	p.Does(0, leads)
	words(p, 1, tails{0: 1}, busy(0)+1, 0, nobodys)
	arrives(p, 1)
	words(p, 2, tails{0: 1, 7: 2}, busy(0)+1, busy(7)+1, nobodys)
	p.Does(1, nothing, nothing)
	p.Unlock(0)
	p.Does(1, nothing)
	p.Does(0, nothing)
	p.Does(1, nothing)
	p.Does(0, released)
	words(p, 2, tails{0: 1, 7: 2}, free(0)+1, busy(7)+1, nobodys)
	nodes(p, 3, 2)
	p.Does(1, leads)
	nodes(p, 3, 2)
	leaves(p, 1)
	words(p, 2, tails{0: 1, 7: 2}, free(0)+1, free(7)+1, nobodys)
	nodes(p, 3, 1)
}

// A batch of three arrives with one Arrive; the two behind are granted the lock
// without one, and without Lead.
func TestBatchOfThreeP15_1(t *testing.T) {
	p := newPair(t, 4, 4, 4)
	for _, c := range []int{2, 0, 1} {
		enters(p, c)
	}
	p.Does(0, nothing, nothing)
	p.Does(1, nothing, nothing)
	words(p, 4, tails{4: 2}, busy(4), busy(4), busy(4), nobodys)
	gathers(p, 2)
	words(p, 2, tails{4: 2}, busy(4), busy(4), busy(4), nobodys)
	splices(p, 2)
	words(p, 2, tails{4: 2}, busy(4), busy(4)+1, busy(4), nobodys)
	p.Does(0, nothing)
	p.Does(1, nothing)
	p.Does(2, leads)
	p.Does(0, nothing)
	leaves(p, 2)
	words(p, 2, tails{4: 2}, busy(4), busy(4)+1, free(4), nobodys)
	p.Does(1, nothing)
	p.Does(0, granted)
	leaves(p, 0)
	words(p, 2, tails{4: 2}, free(4), busy(4)+1, free(4), nobodys)
	p.Does(1, granted)
	leaves(p, 1)
	words(p, 2, tails{4: 2}, free(4), free(4)+1, free(4), nobodys)
	nodes(p, 3, 1, 4)
}

// Who finds the one ahead spliced begins another batch, whether that one waits
// still, has the lock, or left it.
func TestFindsSplicedP15_1(t *testing.T) {
	for _, when := range []int{api.Locking, api.Holding, api.Idle} {
		p := newPair(t, 6, 6)
		arrives(p, 0)
		if when != api.Locking {
			p.Does(0, leads)
		}
		if when == api.Idle {
			leaves(p, 0)
		}
		arrivesAgain(p, 1)
		if when == api.Locking {
			p.Does(1, nothing)
			p.Does(0, leads)
		}
		if when != api.Idle {
			p.Does(1, nothing)
			leaves(p, 0)
		}
		words(p, 2, tails{6: 2}, free(6)+1, busy(6)+1, nobodys)
		p.Does(1, leads)
		leaves(p, 1)
		nodes(p, 3, 1)
	}
}

// moved is a lock whose node 1 was the last one of the cluster 1, and is in the
// hands of the context 1 of the cluster 2 now.
func moved(t *testing.T) *locktest.Pair {
	t.Helper()
	p := newPair(t, 1, 2, 2)
	for c := range 2 {
		arrives(p, c)
		p.Does(c, leads)
		leaves(p, c)
	}
	nodes(p, 4, 1, 3)
	return p
}

// Who finds the node ahead in the hands of another cluster begins a batch, in
// which it waits for the last one of all, not for that node.
func TestFindsOtherClusterP15_1(t *testing.T) {
	p := moved(t)
	words(p, 2, tails{1: 1, 2: 2}, free(1)+1, free(2)+1, 0, nobodys)
	p.Calls(1)
	p.Does(1, nothing)
	words(p, 2, tails{1: 1, 2: 2}, busy(2), free(2)+1, 0, nobodys)
	enters(p, 0)
	words(p, 2, tails{1: 4, 2: 2}, busy(2), free(2)+1, 0, busy(1))
	p.Does(0, nothing)
	gathers(p, 0)
	words(p, 4, tails{1: 4, 2: 2}, busy(2), free(2)+1, 0, busy(1))
	splices(p, 0)
	p.Does(0, leads)
	words(p, 4, tails{1: 4, 2: 2}, busy(2), free(2)+1, 0, busy(1)+1)
	p.Does(1, enq, nothing)
	gathers(p, 1)
	splices(p, 1)
	p.Does(1, nothing)
	leaves(p, 0)
	p.Does(1, leads)
	leaves(p, 1)
	words(p, 1, tails{1: 4, 2: 1}, free(2)+1, free(2)+1, 0, free(1)+1)
	nodes(p, 2, 4, 3)
}

// So does who finds it there when it is free already, and not spliced: the other
// cluster's batch has more behind it.
func TestFindsOtherClusterFreeP15_1(t *testing.T) {
	p := moved(t)
	enters(p, 1)
	enters(p, 2)
	p.Does(1, nothing)
	gathers(p, 1)
	splices(p, 1)
	words(p, 3, tails{1: 1, 2: 3}, busy(2), free(2)+1, busy(2)+1, nobodys)
	enters(p, 0)
	p.Does(1, leads)
	leaves(p, 1)
	words(p, 3, tails{1: 4, 2: 3}, free(2), free(2)+1, busy(2)+1, busy(1))
	p.Does(0, nothing)
	gathers(p, 0)
	splices(p, 0)
	p.Does(0, nothing)
	p.Does(2, granted)
	p.Does(0, nothing)
	leaves(p, 2)
	p.Does(0, leads)
	leaves(p, 0)
	words(p, 4, tails{1: 4, 2: 3}, free(2), free(2)+1, free(2)+1, free(1)+1)
	nodes(p, 3, 2, 1)
}

// Somebody of its cluster comes in between the load of the cluster's tail and
// the swap of the tail of all: it isn't of this batch.
func TestEntersBehindTheLoadP15_1(t *testing.T) {
	p := newPair(t, 5, 5)
	enters(p, 0)
	p.Does(0, nothing)
	enters(p, 1)
	p.Does(1, nothing)
	words(p, 3, tails{5: 2}, busy(5), busy(5), nobodys)
	p.Does(0, arrive)
	words(p, 1, tails{5: 2}, busy(5), busy(5), nobodys)
	p.Does(1, nothing)
	splices(p, 0)
	words(p, 1, tails{5: 2}, busy(5)+1, busy(5), nobodys)
	p.Does(1, nothing)
	gathers(p, 1)
	words(p, 2, tails{5: 2}, busy(5)+1, busy(5), nobodys)
	splices(p, 1)
	p.Does(1, nothing)
	p.Does(0, leads)
	leaves(p, 0)
	p.Does(1, leads)
}

// So does somebody of another cluster: that one is ahead of this batch.
func TestArrivesBehindTheLoadP15_1(t *testing.T) {
	p := newPair(t, 5, 2)
	enters(p, 0)
	p.Does(0, nothing)
	arrives(p, 1)
	words(p, 2, tails{2: 2, 5: 1}, busy(5), busy(2)+1, nobodys)
	p.Does(0, arrive)
	words(p, 1, tails{2: 2, 5: 1}, busy(5), busy(2)+1, nobodys)
	splices(p, 0)
	p.Does(0, nothing)
	p.Does(1, leads)
	p.Does(0, nothing)
	leaves(p, 1)
	nodes(p, 1, 3)
	p.Does(0, leads)
	leaves(p, 0)
	nodes(p, 2, 3)
}

// Somebody of its cluster, and somebody of another one, come in between the swap
// of the tail of all and the splice: neither goes by the batch.
func TestComesBehindTheSwapP15_1(t *testing.T) {
	for _, load := range []bool{false, true} {
		p := newPair(t, 5, 5, 2)
		enters(p, 0)
		gathers(p, 0)
		if load {
			p.Does(0, nothing)
		}
		enters(p, 1)
		p.Does(1, nothing, nothing)
		arrives(p, 2)
		p.Does(2, nothing)
		words(p, 3, tails{2: 3, 5: 2}, busy(5), busy(5), busy(2)+1, nobodys)
		if !load {
			p.Does(0, nothing)
		}
		p.Does(0, nothing)
		words(p, 3, tails{2: 3, 5: 2}, busy(5)+1, busy(5), busy(2)+1, nobodys)
		p.Does(1, nothing)
		gathers(p, 1)
		splices(p, 1)
		words(p, 2, tails{2: 3, 5: 2}, busy(5)+1, busy(5)+1, busy(2)+1, nobodys)
		for i, c := range []int{0, 2, 1} {
			for _, d := range []int{2, 1}[i:] {
				p.Does(d, nothing)
			}
			p.Does(c, leads)
			leaves(p, c)
		}
		nodes(p, 4, 3, 1)
	}
}

// Whoever is in its cluster till the load is of the batch, also who came while
// the first one looked at the one ahead in (3), or behind that.
func TestGathersAllByThenP15_1(t *testing.T) {
	p := newPair(t, 3, 3, 3, 3)
	arrives(p, 0)
	enters(p, 2)
	enters(p, 3)
	p.Does(2, nothing)
	enters(p, 1)
	gathers(p, 2)
	words(p, 2, tails{3: 2}, busy(3)+1, busy(3), busy(3), busy(3), nobodys)
	splices(p, 2)
	words(p, 2, tails{3: 2}, busy(3)+1, busy(3)+1, busy(3), busy(3), nobodys)
	p.Does(0, leads)
	leaves(p, 0)
	p.Does(2, leads)
	leaves(p, 2)
	p.Does(1, nothing)
	p.Does(3, granted)
	leaves(p, 3)
	p.Does(1, granted)
	leaves(p, 1)
	nodes(p, 5, 4, 1, 3)
}

func TestWaitsBehindItsClusterP15_1(t *testing.T) {
	p := newPair(t, 1, 1)
	enters(p, 0)
	enters(p, 1)
	for range 2000 {
		p.Does(1, nothing)
	}
	gathers(p, 0)
	splices(p, 0)
	p.Does(0, leads)
	for range 2000 {
		p.Does(1, nothing)
	}
	leaves(p, 0)
	p.Does(1, granted)
	leaves(p, 1)
	if got := [2]int{p.Port.Accesses(1), p.Port.Writes(1)}; got != [2]int{2 + 4001 + 2, 2 + 1} {
		t.Errorf("accesses and writes: %v", got)
	}
}

func TestWaitsBehindAllP15_1(t *testing.T) {
	p := newPair(t, 1, 2)
	arrives(p, 0)
	arrives(p, 1)
	for range 2000 {
		p.Does(1, nothing)
	}
	p.Does(0, leads)
	for range 2000 {
		p.Does(1, nothing)
	}
	leaves(p, 0)
	p.Does(1, leads)
	leaves(p, 1)
	if got := [2]int{p.Port.Accesses(1), p.Port.Writes(1)}; got != [2]int{6 + 4001 + 2, 4 + 1} {
		t.Errorf("accesses and writes: %v", got)
	}
}

// marks are packed words of many clusters, waiting or not, spliced or not.
func marks() []uint32 {
	var all []uint32
	for cluster := range 16 {
		for mark := range uint32(4) {
			all = append(all, free(cluster)+mark)
		}
	}
	for _, v := range []uint32{free(0), free(7), nobodys} {
		all = append(all, locktest.Others(v)...)
	}
	return all
}

// The step (3) goes by what the word of the node ahead is, whoever stored it
// there: all of its cluster, and both marks.
func TestFollowsTheWordP15_1(t *testing.T) {
	for home := range api.MaxNodes {
		for _, v := range marks() {
			p := newPair(t, home, home)
			enters(p, 0)
			enters(p, 1)
			set(p, 1, v)
			switch v {
			case free(home):
				p.Does(1, granted)
			case busy(home):
				p.Does(1, nothing, nothing, nothing)
			default:
				p.Does(1, nothing, nothing, arrive)
			}
		}
	}
}

// The step (8) goes by one mark alone.
func TestLooksAtTheWordP15_1(t *testing.T) {
	for _, v := range marks() {
		p := newPair(t, 4)
		arrives(p, 0)
		set(p, 2, v)
		if v&2 != 0 {
			p.Does(0, nothing, nothing)
			set(p, 2, v-2)
		}
		p.Does(0, leads)
	}
}

// Its node's word is stored, whatever that was.
func TestStoresWhateverItWasP15_1(t *testing.T) {
	for _, v := range marks() {
		p := newPair(t, 5, 1)
		set(p, 2, v)
		p.Calls(1)
		p.Does(1, nothing)
		words(p, 3, tails{}, 0, busy(1), nobodys)
	}
}

// triesInVain brings the context 0 of the cluster 4, which loads its own node's
// word next, to a Cas that is done: somebody stored another word since the load,
// but stored the old one again. Ahead of that it tries in vain to change each of
// many others.
func triesInVain(p *locktest.Pair, v uint32) {
	p.Helper()
	for _, now := range locktest.Others(v) {
		set(p, 1, v)
		p.Does(0, nothing)
		set(p, 1, now)
		p.Does(0, nothing)
		words(p, 1, tails{4: 1}, now, nobodys)
		nodes(p, 1)
	}
	set(p, 1, v)
	p.Does(0, nothing)
	set(p, 1, v+1)
	set(p, 1, v)
}

// The splice leaves all but one mark as it was, and is tried again where
// somebody stored another word since it was loaded.
func TestSpliceIsTriedAgainP15_1(t *testing.T) {
	for _, v := range marks() {
		p := newPair(t, 4)
		enters(p, 0)
		gathers(p, 0)
		triesInVain(p, v)
		p.Does(0, nothing)
		words(p, 1, tails{4: 1}, v|1, nobodys)
		p.Does(0, leads)
	}
}

// To free its node leaves all but one mark as it was, and is tried again where
// somebody stored another word since it was loaded.
func TestUnlockIsTriedAgainP15_1(t *testing.T) {
	for _, v := range marks() {
		p := newPair(t, 4)
		arrives(p, 0)
		p.Does(0, leads)
		p.Unlock(0)
		triesInVain(p, v)
		p.Does(0, released)
		words(p, 1, tails{4: 1}, v&^2, nobodys)
		nodes(p, 2)
	}
}

// A batch ends with the node that the cluster's tail tells of, and the one ahead
// is that which the tail of all tells of, whoever stored it there.
func TestGoesByTheTailsP15_1(t *testing.T) {
	for last := 1; last <= 4; last++ {
		for ahead := 1; ahead <= 4; ahead++ {
			p := newPair(t, 6, 6, 6)
			enters(p, 1)
			p.Sets(1+6, uint32(last))
			p.Does(1, nothing)
			p.Sets(1+6, 2)
			p.Sets(0, uint32(ahead))
			p.Does(1, arrive)
			words(p, uint32(last), tails{6: 2})
			for node := 1; node <= 4; node++ {
				set(p, node, uint32(8*node+2))
			}
			p.Does(1, nothing, nothing)
			want := []uint32{10, 18, 26, 34}
			want[last-1]++
			words(p, uint32(last), tails{6: 2}, want...)
			p.Does(1, nothing)
			for node := 1; node <= 4; node++ {
				set(p, node, 2)
			}
			p.Does(1, nothing)
			set(p, ahead, 0)
			p.Does(1, leads)
			leaves(p, 1)
			nodes(p, 1, ahead, 3)
		}
	}
}

// Nodes go from each one to the one behind it, through three clusters, one of
// which has two contexts.
func TestNodesGoThroughClustersP15_1(t *testing.T) {
	p := newPair(t, 1, 2, 3, 1)
	for _, want := range [][]int{{5, 1, 2, 3}, {4, 5, 1, 2}, {3, 4, 5, 1}, {2, 3, 4, 5}, {1, 2, 3, 4}, {5, 1, 2, 3}} {
		for c := range 4 {
			enters(p, c)
			p.Until(c, api.Granted)
			leaves(p, c)
		}
		nodes(p, want...)
		p.Words(uint32(15 - want[0] - want[1] - want[2] - want[3]))
	}
}

// Over many calls each context has each node.
func TestEachHasEachNodeP15_1(t *testing.T) {
	for _, in := range locktest.Nodes() {
		r := locktest.Numbers(15)
		p := newPair(t, locktest.Within(5, 0, in)...)
		var had [5][6]bool
		for range 500 {
			c := r.Below(5)
			p.Bring(c, api.Unlocking)
			p.Until(c, api.Released)
			for d, node := range allNodes(p) {
				had[d][node-1] = true
			}
		}
		for c, nodes := range had {
			if slices.Contains(nodes[:], false) {
				t.Errorf("clusters %v: %d had these nodes: %v", in, c, nodes)
			}
		}
	}
}

func TestWhereTheWordsLieP15_1(t *testing.T) {
	for _, before := range []int{0, 1, 5, 64} {
		for _, homes := range [][]int{{0}, {7}, {7, 0}, {3, 1, 4}, {2, 2, 2}, {1, 2, 3, 4, 5, 6, 7, 0}, locktest.Homes(63, 2), locktest.Homes(64, 7)} {
			lies(t, before, homes)
		}
	}
}

// lies asks where the words of a lock lie that is laid behind some others.
func lies(t *testing.T, before int, homes []int) {
	t.Helper()
	own := slices.Concat(homes[:1], []int{0, 1, 2, 3, 4, 5, 6, 7}, homes, homes[:1])
	values := make([]uint32, 10+len(homes))
	values[0], values[9+len(homes)] = uint32(len(homes))+1, nobodys
	l := locktest.Lies(t, queue(), before, homes, own, values)
	for c := range homes {
		if got := l.(*hier.Lock).Node(c); got != c+1 {
			t.Fatalf("%d of %d: node %d", c, len(homes), got)
		}
	}
}

func TestHomesFromNoughtToSevenP15_1(t *testing.T) {
	for h := range api.MaxNodes {
		p := newPair(t, 7-h, h, h)
		arrives(p, 1)
		var each tails
		each[h] = 2
		words(p, 2, each, 0, busy(h)+1, 0, nobodys)
	}
}

func TestNodeOfNoContextP15_1(t *testing.T) {
	for _, n := range []int{1, 2, 3, 63, 64} {
		l, _ := hier.New(plan.New(1), locktest.Homes(n, 0))
		for _, c := range locktest.NoContexts(n) {
			if got := l.Node(c); got != -1 {
				t.Errorf("%d contexts: Node(%d) = %d", n, c, got)
			}
		}
	}
}

// Any thread of the port does a context's steps: the accesses are its own, the
// node and the cluster are the context's.
func TestStepsByOtherThreadsP15_1(t *testing.T) {
	p := locktest.New(t, 10, queue(), 1, 2)
	p.Calls(0)
	for as := 9; as >= 3; as-- {
		p.Step(0, as, 0)
	}
	words(p, 1, tails{1: 1}, busy(1)+1, 0, nobodys)
	p.Unlock(0)
	p.Step(0, 2, 0)
	p.Step(0, 1, 0)
	nodes(p, 3, 2)
	for as, want := range [][2]int{{0, 0}, {1, 1}, {1, 0}, {1, 0}, {1, 1}, {1, 0}, {1, 1}, {1, 0}, {1, 1}, {1, 1}} {
		if got := [2]int{p.Port.Accesses(as), p.Port.Writes(as)}; got != want {
			t.Errorf("accesses and writes of %d: %v, want %v", as, got, want)
		}
	}
}

func TestWhoeverStepsP15_1(t *testing.T) {
	for _, k := range kinds() {
		locktest.WhoeverSteps(t, k)
	}
}

func TestAnyCallsP15_1(t *testing.T) {
	for i, k := range kinds() {
		for steps := range 3 {
			locktest.AnyCalls(t, k, 1000+10*i+steps)
		}
	}
}

// Each context's calls follow each other, so that nodes go on and on.
func TestCallsWithoutRestP15_1(t *testing.T) {
	r := locktest.Numbers(51)
	for _, in := range locktest.Nodes() {
		for _, n := range []int{1, 2, 3, 5, 8, 17} {
			p := newPair(t, locktest.Within(n, 0, in)...)
			for range 4000 {
				p.GoesOn(r.Below(n), r.Below(n))
			}
		}
	}
}

func TestTwoLocksP15_1(t *testing.T) {
	for i, k := range kinds() {
		for steps := range 2 {
			locktest.RowInOnePlan(t, k, 1500+10*i+steps)
			locktest.PortsOfOnePlan(t, k, 1500+10*i+steps)
		}
	}
}

// lock names an embedded lock's field in small letters: it would hide the
// lock's method of the same name.
type lock = hier.Lock

// told is a lock, or its model, over a port in which each cluster has had
// somebody: there its tail tells of a node, wherever a call goes on.
type told struct {
	*lock
	first int
}

func (l told) Use(p *port.Port) {
	tell(p, l.first)
	l.lock.Use(p)
}

type toldModel struct{ *model }

func (m toldModel) Use(p *port.Port) {
	tell(p, m.all)
	m.model.Use(p)
}

// tell stores a node into the tail of each cluster that has had nobody.
func tell(p *port.Port, first int) {
	for cluster := range 8 {
		if p.Load(0, first+1+cluster) == 0 {
			p.Store(0, first+1+cluster, 1)
		}
	}
}

func TestUseOfOtherPortsP15_1(t *testing.T) {
	for i, k := range kinds() {
		k.Lay = func(p *plan.Plan, homes []int) (locktest.Lock, api.Errno) {
			first := p.Len()
			l, e := hier.New(p, homes)
			return told{l, first}, e
		}
		k.Model = func(p *plan.Plan, homes []int) locktest.Model { return toldModel{newModel(p, homes)} }
		for steps := range 4 {
			locktest.UseOfOtherPorts(t, k, 500+10*i+steps)
		}
	}
}

func TestByTurnsAllComeToTheirEndsP15_1(t *testing.T) {
	for _, k := range kinds() {
		for _, n := range []int{1, 2, 5, 16} {
			locktest.ByTurns(t, k, n, 3)
		}
		locktest.ByTurns(t, k, 64, 1)
	}
}

func TestHowManyContextsP15_1(t *testing.T) {
	for _, k := range kinds() {
		locktest.HowManyContexts(t, k)
	}
}

func TestEachCallInEachStateP15_1(t *testing.T) { locktest.EachCallInEachState(t, queue()) }

func TestDeadlinesAreNotTakenP15_1(t *testing.T) { locktest.NoDeadlines(t, queue()) }

// Probe isn't taken: that is a wrong argument also of one who doesn't hold the
// lock, or is busy.
func TestProbeIsNotTakenP15_1(t *testing.T) {
	for _, state := range locktest.States(false) {
		p := newPair(t, 1, 1)
		p.Bring(1, state)
		for _, c := range []int{0, 1, 2, -1} {
			if e := p.Probe(c); e != api.ErrArg {
				t.Errorf("state %d: Probe(%d) = %d", state, c, e)
			}
		}
	}
}

func TestNoSuchContextP15_1(t *testing.T) { locktest.NoSuchContext(t, queue()) }

func TestStepOfIdleAndHoldingP15_1(t *testing.T) { locktest.StepOfIdleAndHolding(t, queue()) }

func TestAnyTickP15_1(t *testing.T) { locktest.AnyTick(t, queue()) }

func TestHomesStayTheAskersP15_1(t *testing.T) { locktest.HomesStayTheAskers(t, queue()) }

func TestWrongHomesP15_1(t *testing.T) {
	for _, homes := range locktest.NoHomes() {
		locktest.Refuses(t, api.ErrArg, func(p *plan.Plan) (bool, api.Errno) {
			l, e := hier.New(p, homes)
			return l == nil, e
		})
	}
}

func TestOneAccessAStepP15_2(t *testing.T) {
	for i, k := range kinds() {
		locktest.OneAccessAStep(t, k, 4000+i)
	}
}

func TestNoAccessButAStepsP15_2(t *testing.T) { locktest.NoAccessButAStep(t, queue()) }

// movesOn asks that no two contexts have one node, and that there are such nodes.
func movesOn(p *locktest.Pair) {
	p.Helper()
	all := allNodes(p)
	for c, node := range all {
		if node < 1 || node > len(all)+1 || slices.Index(all, node) != c {
			p.Fatalf("the nodes are %v", all)
		}
	}
}

func TestNodesMoveOnP15_3(t *testing.T) {
	r := locktest.Numbers(153)
	for _, in := range locktest.Nodes() {
		for _, n := range []int{1, 2, 3, 4, 7, 16, 64} {
			p := newPair(t, locktest.Within(n, 1, in)...)
			for range 1000 {
				p.Any(&r)
				movesOn(p)
			}
		}
	}
}

func TestNodesMoveOnWithoutRestP15_3(t *testing.T) {
	r := locktest.Numbers(351)
	for _, in := range locktest.Nodes() {
		for _, n := range []int{1, 2, 3, 5, 8} {
			p := newPair(t, locktest.Within(n, 0, in)...)
			grants := 0
			for range 4000 {
				did := p.GoesOn(r.Below(n), 0)
				movesOn(p)
				if did.Event == api.Granted {
					grants++
				}
			}
			if grants < 100 {
				t.Errorf("clusters %v, %d contexts: only %d grants", in, n, grants)
			}
		}
	}
}

// Behind all calls the one node that is nobody's is the last one's, and it
// doesn't wait.
func TestNodesAreAtRestP15_3(t *testing.T) {
	r := locktest.Numbers(315)
	for _, n := range []int{1, 2, 5, 64} {
		p := newPair(t, locktest.Homes(n, 4)...)
		for range 200 {
			c := r.Below(n)
			p.Bring(c, api.Unlocking)
			p.Until(c, api.Released)
			movesOn(p)
			nobody := (n + 1) * (n + 2) / 2
			for _, node := range allNodes(p) {
				nobody -= node
			}
			p.Words(uint32(nobody))
			if w := p.Port.Words()[p.First+8+nobody]; w&2 != 0 {
				t.Fatalf("the word of the node %d is %d", nobody, w)
			}
		}
	}
}

// Of one cluster contexts are granted the lock in the order of their Enqs; who
// leads is who arrived, in that order. Some contexts are slower than others.
func TestOrderIsThatOfEnqsP15_4(t *testing.T) {
	r := locktest.Numbers(154)
	for _, in := range locktest.Nodes() {
		for _, n := range []int{1, 2, 3, 5, 8, 16, 40, 64} {
			p := newPair(t, locktest.Within(n, 0, in)...)
			o := locktest.NewOrder(p)
			for range 4000 {
				c := r.Below(1 + r.Below(n))
				o.Takes(c, p.GoesOn(c, c))
			}
			o.HadBoth()
		}
	}
}

// All in one cluster, they are granted the lock in the order of all Enqs.
func TestOrderInOneClusterP15_4(t *testing.T) {
	for n := 1; n <= 16; n++ {
		for home := range api.MaxNodes {
			locktest.GrantsInOrderOfEnqs(t, queue(home), n, 500)
		}
	}
}
