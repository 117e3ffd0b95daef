package cohort_test

import (
	"math"
	"slices"
	"testing"

	"weighlock/abort"
	"weighlock/api"
	"weighlock/clh"
	"weighlock/cohort"
	"weighlock/flat"
	"weighlock/hier"
	"weighlock/locktest"
	"weighlock/mcs"
	"weighlock/plan"
	"weighlock/port"
	"weighlock/slots"
)

// What steps do. leads: it is granted the lock, and its node's time begins.
var (
	nothing  = api.Did{}
	enq      = api.Did{Enq: true}
	arrive   = api.Did{Arrive: true}
	granted  = api.Did{Event: api.Granted}
	leads    = api.Did{Event: api.Granted, Lead: true}
	released = api.Did{Event: api.Released}
)

// locks is which locks a cohort has, and its budget.
type locks struct{ global, local, budget int }

// pairs are all pairs of locks, with this budget.
func pairs(budget int) []locks {
	var all []locks
	for _, global := range []int{api.Ticket, api.Mcs} {
		for _, local := range []int{api.Ticket, api.Clh, api.Mcs} {
			all = append(all, locks{global, local, budget})
		}
	}
	return all
}

// many are all pairs with few and many in a row.
func many() []locks { return slices.Concat(pairs(1), pairs(2), pairs(3), pairs(1000)) }

// model is what the chapter says, in plain words, over locks of the layers
// below: the addresses of the passes, the global lock, each node's local one;
// each context's node, which one of its local lock it is, what its node's pass
// told, and which part of its call it is at.
type model struct {
	*port.Port
	budget       int
	passes       []int
	global       locktest.Lock
	locals       [8]locktest.Lock
	nodes, ranks []int
	row          []uint32
	at           []string
}

func (m *model) Use(p *port.Port) {
	m.Port = p
	m.global.Use(p)
	for _, c := range m.nodes {
		m.locals[c].Use(p)
	}
}

func (m *model) Step(state, t, as int) api.Did {
	c := m.nodes[t]
	call := m.unlock
	if state == api.Locking {
		call = m.lock
	}
	did := call(t, as, c, m.passes[c], m.locals[c], m.ranks[t])
	if did.Event != api.None {
		m.at[t] = "begin"
	}
	return did
}

// lock is a step of a Lock of t, who is i in the local lock of the node c.
func (m *model) lock(t, as, c, pass int, local locktest.Lock, i int) api.Did {
	if m.at[t] == "begin" {
		local.Lock(i, -1)
		m.at[t] = "local"
	}
	switch m.at[t] {
	case "local":
		did := local.Step(i, as, 0)
		if did.Event == api.Granted {
			m.at[t] = "pass"
		}
		return api.Did{Enq: did.Enq}
	case "pass":
		if m.Load(as, pass) != 0 {
			return granted
		}
		m.global.Lock(c, -1)
		m.at[t] = "global"
	case "global":
		did := m.global.Step(c, as, 0)
		if did.Event == api.Granted {
			m.at[t] = "lead"
		}
		return api.Did{Arrive: did.Enq}
	case "lead":
		m.Store(as, pass, 1)
		return leads
	}
	return nothing
}

// unlock is a step of an Unlock.
func (m *model) unlock(t, as, c, pass int, local locktest.Lock, i int) api.Did {
	switch m.at[t] {
	case "begin":
		m.row[t] = m.Load(as, pass)
		m.at[t] = "time ends"
		if int(m.row[t]) < m.budget {
			local.Probe(i)
			m.at[t] = "probe"
		}
	case "probe":
		m.at[t] = "one more"
		if local.Step(i, as, 0).Event == api.Alone {
			m.at[t] = "time ends"
		}
	case "one more":
		m.Store(as, pass, m.row[t]+1)
		local.Unlock(i)
		m.at[t] = "local"
	case "time ends":
		m.Store(as, pass, 0)
		m.global.Unlock(c)
		m.at[t] = "global"
	case "global":
		if m.global.Step(c, as, 0).Event == api.Released {
			local.Unlock(i)
			m.at[t] = "local"
		}
	case "local":
		return api.Did{Event: local.Step(i, as, 0).Event}
	}
	return nothing
}

// newModel lays the words.
func newModel(p *plan.Plan, homes []int, of locks) *model {
	n := len(homes)
	m := &model{budget: of.budget, nodes: slices.Clone(homes), row: make([]uint32, n), at: slices.Repeat([]string{"begin"}, n)}
	for c := range 8 {
		m.passes = append(m.passes, p.Word(c, 0))
	}
	m.global = lays(p, of.global, []int{0, 1, 2, 3, 4, 5, 6, 7})
	var has [8]int
	for _, c := range homes {
		m.ranks = append(m.ranks, has[c])
		has[c]++
	}
	for c, contexts := range has {
		if contexts > 0 {
			m.locals[c] = lays(p, of.local, slices.Repeat([]int{c}, contexts))
		}
	}
	return m
}

// lays lays a lock of a layer below.
func lays(p *plan.Plan, kind int, homes []int) locktest.Lock {
	switch kind {
	case api.Ticket:
		l, _ := flat.New(p, homes, 0)
		return l
	case api.Clh:
		l, _ := clh.New(p, homes)
		return l
	}
	l, _ := mcs.New(p, homes)
	return l
}

// kind is the kind of these locks, of contexts that are on these nodes by turns;
// on all of them, if none are named.
func kind(of locks, nodes ...int) locktest.Kind {
	k := locktest.Kind{
		Lay: func(p *plan.Plan, homes []int) (locktest.Lock, api.Errno) {
			return cohort.New(p, homes, of.global, of.local, of.budget)
		},
		Model: func(p *plan.Plan, homes []int) locktest.Model { return newModel(p, homes, of) },
	}
	if len(nodes) > 0 {
		k.Homes = func(n, first int) []int { return locktest.Within(n, first, nodes) }
	}
	return k
}

// kinds are all pairs with several budgets, by turns on few nodes and on many.
func kinds() []locktest.Kind {
	var all []locktest.Kind
	in := locktest.Nodes()
	for i, of := range many() {
		all = append(all, kind(of, in[i%len(in)]...))
	}
	return all
}

// newPair is a lock of contexts with these homes.
func newPair(t *testing.T, of locks, homes ...int) *locktest.Pair {
	t.Helper()
	return locktest.New(t, max(len(homes), 2), kind(of), homes...)
}

// passes are the nodes' passes.
type passes [8]uint32

// only is the passes where that of this node alone isn't 0.
func only(node int, v uint32) passes {
	var each passes
	each[node] = v
	return each
}

// words says what the first words of a lock must be.
func words(p *locktest.Pair, each passes, inner ...uint32) {
	p.Helper()
	p.Words(append(each[:], inner...)...)
}

// global is the words of a global lock of the kind Mcs: its tail, and those that
// aren't 0, each with its number.
func global(tail uint32, others ...[2]uint32) []uint32 {
	all := make([]uint32, 17)
	all[0] = tail
	for _, o := range others {
		all[o[0]] = o[1]
	}
	return all
}

// queues brings an idle context to where it waits for another one.
func queues(p *locktest.Pair, t int) {
	p.Helper()
	p.Calls(t)
	for range 12 {
		if did := p.Step(t, t, 0); did.Event != api.None {
			p.Fatalf("step of %d, who has to wait: %v", t, did)
		}
	}
}

// leaves brings one who has the lock to its end.
func leaves(p *locktest.Pair, t int) {
	p.Helper()
	p.Unlock(t)
	p.Until(t, api.Released)
}

// finds are the steps of a Lock of an inner lock of this kind that finds nobody;
// got is what the one is that is its Enq.
func finds(kind int, got api.Did) []api.Did {
	switch kind {
	case api.Ticket:
		return []api.Did{got, nothing}
	case api.Clh:
		return []api.Did{nothing, got, nothing}
	}
	return []api.Did{nothing, got}
}

// quits are the steps of an Unlock of an inner lock of this kind; last is what
// the last one comes to.
func quits(kind int, last api.Did) []api.Did {
	if kind == api.Mcs {
		return []api.Did{nothing, last}
	}
	return []api.Did{last}
}

// leading are the steps of a Lock that finds nobody.
func (of locks) leading() []api.Did {
	return slices.Concat(finds(of.local, enq), []api.Did{nothing}, finds(of.global, arrive), []api.Did{leads})
}

// ending are the steps of an Unlock from where its node's time ends.
func (of locks) ending() []api.Did {
	return slices.Concat([]api.Did{nothing}, quits(of.global, nothing), quits(of.local, released))
}

func TestExampleP16_1(t *testing.T) {
	for home := range api.MaxNodes {
		p := newPair(t, locks{api.Ticket, api.Ticket, 3}, home)
		p.Calls(0)
		p.Does(0, enq, nothing, nothing, arrive, nothing, leads)
	}
}

// The same way with each pair of locks, and another call that finds nobody
// behind each.
func TestWayOfOneAloneP16_1(t *testing.T) {
	for _, of := range many() {
		for home := range api.MaxNodes {
			p := newPair(t, of, 7-home, home)
			for range 3 {
				p.Calls(1)
				p.Does(1, of.leading()...)
				words(p, only(home, 1))
				p.Unlock(1)
				p.Does(1, nothing)
				if of.budget > 1 {
					p.Does(1, nothing)
				}
				words(p, only(home, 1))
				p.Does(1, of.ending()...)
				words(p, passes{})
			}
		}
	}
}

// A whole way of a context, alone, with all words behind each step: tickets over
// tickets. The local locks lie in the order of the nodes.
func TestWholeWayP16_1(t *testing.T) {
	p := newPair(t, locks{api.Ticket, api.Ticket, 2}, 5, 3, 5)
	words(p, passes{}, 0, 0, 0, 0, 0, 0)
	p.Calls(2)
	words(p, passes{}, 0, 0, 0, 0, 0, 0)
	p.Does(2, enq)
	words(p, passes{}, 0, 0, 0, 0, 1, 0)
	p.Does(2, nothing, nothing)
	words(p, passes{}, 0, 0, 0, 0, 1, 0)
	p.Does(2, arrive)
	words(p, passes{}, 1, 0, 0, 0, 1, 0)
	p.Does(2, nothing)
	words(p, passes{}, 1, 0, 0, 0, 1, 0)
	p.Does(2, leads)
	words(p, only(5, 1), 1, 0, 0, 0, 1, 0)
	p.Unlock(2)
	p.Does(2, nothing, nothing)
	words(p, only(5, 1), 1, 0, 0, 0, 1, 0)
	p.Does(2, nothing)
	words(p, passes{}, 1, 0, 0, 0, 1, 0)
	p.Does(2, nothing)
	words(p, passes{}, 1, 1, 0, 0, 1, 0)
	p.Does(2, released)
	words(p, passes{}, 1, 1, 0, 0, 1, 1)
	p.Calls(1)
	p.Does(1, enq)
	words(p, passes{}, 1, 1, 1, 0, 1, 1)
	p.Does(1, nothing, nothing, arrive)
	words(p, passes{}, 2, 1, 1, 0, 1, 1)
	p.Does(1, nothing, leads)
	words(p, only(3, 1), 2, 1, 1, 0, 1, 1)
}

// One behind another of its node, and one of another node behind both, with all
// words: queues over nodes that move on.
func TestMcsOverClhP16_1(t *testing.T) {
	p := newPair(t, locks{api.Mcs, api.Clh, 5}, 6, 1, 6)
	words(p, passes{}, global(0)...)
	p.Calls(0)
	p.Does(0, nothing, enq)
	words(p, passes{}, slices.Concat(global(0), []uint32{0, 0, 0, 1, 0, 1, 0})...)
	p.Does(0, nothing, nothing, nothing, arrive)
	words(p, passes{}, slices.Concat(global(7), []uint32{0, 0, 0, 1, 0, 1, 0})...)
	p.Does(0, leads)
	p.Calls(1)
	p.Does(1, nothing, enq, nothing, nothing, nothing, arrive)
	words(p, only(6, 1), slices.Concat(global(2), []uint32{1, 0, 1, 1, 0, 1, 0})...)
	p.Does(1, nothing, nothing, nothing)
	words(p, only(6, 1), slices.Concat(global(2, [2]uint32{4, 1}, [2]uint32{13, 2}), []uint32{1, 0, 1, 1, 0, 1, 0})...)
	p.Calls(2)
	p.Does(2, nothing, enq, nothing)
	words(p, only(6, 1), slices.Concat(global(2, [2]uint32{4, 1}, [2]uint32{13, 2}), []uint32{1, 0, 1, 2, 0, 1, 1})...)
	p.Unlock(0)
	p.Does(0, nothing, nothing)
	words(p, only(6, 1))
	p.Does(0, nothing)
	words(p, only(6, 2), slices.Concat(global(2, [2]uint32{4, 1}, [2]uint32{13, 2}), []uint32{1, 0, 1, 2, 0, 1, 1})...)
	p.Does(2, nothing)
	p.Does(0, released)
	words(p, only(6, 2), slices.Concat(global(2, [2]uint32{4, 1}, [2]uint32{13, 2}), []uint32{1, 0, 1, 2, 0, 0, 1})...)
	p.Does(2, nothing, granted)
	words(p, only(6, 2))
	p.Unlock(2)
	p.Does(2, nothing, nothing)
	words(p, only(6, 2))
	p.Does(2, nothing)
	words(p, passes{}, slices.Concat(global(2, [2]uint32{4, 1}, [2]uint32{13, 2}), []uint32{1, 0, 1, 2, 0, 0, 1})...)
	p.Does(2, nothing)
	p.Does(1, nothing)
	p.Does(2, nothing)
	words(p, passes{}, slices.Concat(global(2, [2]uint32{13, 2}), []uint32{1, 0, 1, 2, 0, 0, 1})...)
	p.Does(1, nothing, leads)
	words(p, only(1, 1), slices.Concat(global(2, [2]uint32{13, 2}), []uint32{1, 0, 1, 2, 0, 0, 1})...)
	p.Does(2, released)
	words(p, only(1, 1), slices.Concat(global(2, [2]uint32{13, 2}), []uint32{1, 0, 1, 2, 0, 0, 0})...)
	leaves(p, 1)
	words(p, passes{}, slices.Concat(global(0, [2]uint32{13, 2}), []uint32{1, 0, 0, 2, 0, 0, 0})...)
}

// Who finds its node's pass isn't 0 is granted the lock behind its local lock:
// it doesn't arrive, and doesn't lead.
func TestComesBehindOneOfItsNodeP16_1(t *testing.T) {
	for _, of := range pairs(4) {
		p := newPair(t, of, 2, 2, 2)
		p.Calls(0)
		p.Does(0, of.leading()...)
		queues(p, 2)
		queues(p, 1)
		for i, c := range []int{0, 2} {
			row := uint32(i) + 1
			p.Unlock(c)
			p.Does(c, nothing, nothing)
			words(p, only(2, row))
			p.Does(c, nothing)
			words(p, only(2, row+1))
			p.Does([]int{2, 1}[i], nothing)
			p.Does(c, quits(of.local, released)...)
			p.Does([]int{2, 1}[i], nothing, granted)
			words(p, only(2, row+1))
		}
		p.Unlock(1)
		p.Does(1, nothing, nothing)
		words(p, only(2, 3))
		p.Does(1, of.ending()...)
		words(p, passes{})
		p.Calls(0)
		p.Until(0, api.Granted)
		words(p, only(2, 1))
	}
}

// Another node's pass is nothing to it: it arrives, waits, and leads.
func TestComesBehindOneOfAnotherNodeP16_1(t *testing.T) {
	for _, of := range many() {
		p := newPair(t, of, 2, 3)
		p.Calls(0)
		p.Does(0, of.leading()...)
		p.Calls(1)
		p.Does(1, slices.Concat(finds(of.local, enq), []api.Did{nothing})...)
		if of.global == api.Mcs {
			p.Does(1, nothing, arrive, nothing, nothing)
		} else {
			p.Does(1, arrive)
		}
		for range 2000 {
			p.Does(1, nothing)
		}
		words(p, only(2, 1))
		leaves(p, 0)
		words(p, passes{})
		p.Does(1, nothing, leads)
		words(p, only(3, 1))
	}
}

// values are numbers near a budget, and far from all that there are.
func values(budget int) []uint32 {
	near := uint32(budget)
	return []uint32{0, 1, 2, near - 1, near, near + 1, 999, 1000, 1001, 1 << 8, 1 << 16, 1 << 31, 1<<31 + near - 1, 1<<32 - 1}
}

// An Unlock goes by what the pass is, whoever stored it there: its node's time
// ends if that is the budget or more, whether somebody is behind or not.
func TestUnlockGoesByThePassP16_1(t *testing.T) {
	for _, budget := range []int{1, 2, 3, 500, 1000} {
		for _, of := range pairs(budget) {
			for _, v := range values(budget) {
				unlocks(t, of, v, true)
				unlocks(t, of, v, false)
			}
		}
	}
}

// unlocks asks what an Unlock does that loads this.
func unlocks(t *testing.T, of locks, v uint32, behind bool) {
	t.Helper()
	p := newPair(t, of, 0, 4, 4)
	p.Calls(2)
	p.Does(2, of.leading()...)
	if behind {
		queues(p, 1)
	}
	p.Sets(4, v)
	p.Unlock(2)
	p.Does(2, nothing)
	// What the pass becomes behind the load is nothing to it.
	p.Sets(4, 77)
	if int(v) < of.budget {
		p.Does(2, nothing)
	}
	words(p, only(4, 77))
	if int(v) < of.budget && behind {
		p.Does(2, nothing)
		words(p, only(4, v+1))
		p.Does(2, quits(of.local, released)...)
		p.Does(1, nothing, granted)
		return
	}
	p.Does(2, nothing)
	words(p, passes{})
	p.Does(2, of.ending()[1:]...)
	words(p, passes{})
	if behind {
		p.Does(1, slices.Concat([]api.Did{nothing, nothing}, finds(of.global, arrive), []api.Did{leads})...)
	}
}

// A Lock goes by what the pass is: all that isn't 0 is one that is left to it.
func TestLockGoesByThePassP16_1(t *testing.T) {
	for _, of := range pairs(3) {
		for _, v := range locktest.Others(0) {
			p := newPair(t, of, 0, 7)
			p.Calls(1)
			p.Does(1, finds(of.local, enq)...)
			p.Sets(7, v)
			p.Does(1, granted)
			words(p, only(7, v))
		}
	}
}

// Whatever the pass became, who leads is the first one.
func TestLeadsWhateverThePassIsP16_1(t *testing.T) {
	for _, of := range pairs(3) {
		for _, v := range locktest.Others(1) {
			p := newPair(t, of, 3, 7)
			p.Calls(0)
			p.Does(0, of.leading()[:len(of.leading())-1]...)
			p.Sets(3, v)
			p.Does(0, leads)
			words(p, only(3, 1))
		}
	}
}

// Nobody is behind whoever asks, ahead of that one's Enq; somebody is behind it,
// if the local lock is known to tell so.
func TestGoesByTheProbeP16_1(t *testing.T) {
	for _, of := range pairs(9) {
		for steps := range 6 {
			p := newPair(t, of, 5, 5)
			p.Calls(0)
			p.Does(0, of.leading()...)
			p.Calls(1)
			known := false
			for i := range steps {
				did := p.Step(1, 1, 0)
				known = known || did.Enq && of.local != api.Mcs || i == 3
			}
			p.Unlock(0)
			p.Does(0, nothing, nothing, nothing)
			if known {
				words(p, only(5, 2))
			} else {
				words(p, passes{})
			}
			for range 6 {
				p.GoesOn(1, 1)
			}
			p.Until(0, api.Released)
			p.Until(1, api.Granted)
			leaves(p, 1)
			words(p, passes{})
		}
	}
}

// Each node has a local lock of its own, in which its contexts alone draw numbers;
// of each node the first one arrives, and they lead in that order.
func TestEachNodeHasItsLockP16_1(t *testing.T) {
	p := newPair(t, locks{api.Ticket, api.Ticket, 1}, locktest.Homes(16, 0)...)
	for c := range 16 {
		p.Calls(c)
		p.Does(c, enq)
		p.Words(slices.Repeat([]uint32{0}, 10)...)
	}
	words(p, passes{}, slices.Concat([]uint32{0, 0}, slices.Repeat([]uint32{2, 0}, 8))...)
	for c := 15; c >= 8; c-- {
		p.Does(c, nothing, nothing)
	}
	for c := range 8 {
		p.Does(c, nothing, nothing, arrive)
	}
	words(p, passes{}, slices.Concat([]uint32{8, 0}, slices.Repeat([]uint32{2, 0}, 8))...)
	for c := range 8 {
		p.Does(c, nothing, leads)
		words(p, only(3*c%8, 1))
		leaves(p, c)
	}
	words(p, passes{}, slices.Concat([]uint32{8, 8}, slices.Repeat([]uint32{2, 1}, 8))...)
}

// lie is the homes and values of the words of a lock that is laid: the passes,
// the global lock's words, and of each node, rising, its local lock's.
func lie(of locks, homes []int) (own []int, values []uint32) {
	nodes := []int{0, 1, 2, 3, 4, 5, 6, 7}
	own = slices.Concat(nodes, innerHomes(of.global, nodes))
	for c := range 8 {
		var its []int
		for _, h := range homes {
			if h == c {
				its = append(its, c)
			}
		}
		if len(its) > 0 {
			own = append(own, innerHomes(of.local, its)...)
		}
	}
	return own, make([]uint32, len(own))
}

// innerHomes is the homes of the words of an inner lock.
func innerHomes(kind int, homes []int) []int {
	h := homes[0]
	switch kind {
	case api.Ticket:
		return []int{h, h}
	case api.Clh:
		return append([]int{h, h}, homes...)
	}
	own := []int{h}
	for _, h := range homes {
		own = append(own, h, h)
	}
	return own
}

func TestWhereTheWordsLieP16_1(t *testing.T) {
	for _, of := range pairs(7) {
		for _, before := range []int{0, 1, 5, 64} {
			for _, homes := range [][]int{{0}, {7}, {7, 0}, {3, 1, 4}, {2, 2, 2}, {6, 5, 6, 0, 6}, {7, 6, 5, 4, 3, 2, 1, 0}, locktest.Homes(63, 2), locktest.Homes(64, 7), make([]int, 64)} {
				own, values := lie(of, homes)
				locktest.Lies(t, kind(of), before, homes, own, values)
			}
		}
	}
}

func TestHowManyWordsP16_1(t *testing.T) {
	for i, of := range pairs(1) {
		p := plan.New(1)
		cohort.New(p, []int{7, 2, 7}, of.global, of.local, 1)
		if want := []int{14, 17, 18, 29, 32, 33}[i]; p.Len() != want {
			t.Errorf("%v: %d words, want %d", of, p.Len(), want)
		}
	}
}

// All contexts are on one node, or each is on its own, or they are on few and on
// many.
func TestHomesFromNoughtToSevenP16_1(t *testing.T) {
	for _, of := range pairs(2) {
		for h := range api.MaxNodes {
			p := newPair(t, of, 7-h, h, h)
			p.Calls(2)
			p.Does(2, of.leading()...)
			words(p, only(h, 1))
		}
	}
}

// Any thread of the port does a context's steps: the accesses are its own.
func TestStepsByOtherThreadsP16_1(t *testing.T) {
	p := locktest.New(t, 12, kind(locks{api.Ticket, api.Clh, 2}), 1, 2)
	p.Calls(0)
	for as := 11; as >= 5; as-- {
		p.Step(0, as, 0)
	}
	words(p, only(1, 1))
	p.Unlock(0)
	for as := 4; as >= 0; as-- {
		p.Step(0, as, 0)
	}
	words(p, passes{}, 1, 1, 1, 0, 0)
	for as, want := range [][2]int{{1, 1}, {1, 1}, {1, 1}, {1, 0}, {1, 0}, {1, 1}, {1, 0}, {1, 1}, {1, 0}, {1, 0}, {1, 1}, {1, 1}} {
		if got := [2]int{p.Port.Accesses(as), p.Port.Writes(as)}; got != want {
			t.Errorf("accesses and writes of %d: %v, want %v", as, got, want)
		}
	}
}

func TestWhoeverStepsP16_1(t *testing.T) {
	for _, of := range pairs(2) {
		locktest.WhoeverSteps(t, kind(of))
		locktest.WhoeverSteps(t, kind(of, 3, 5))
	}
}

func TestAnyCallsP16_1(t *testing.T) {
	for i, k := range kinds() {
		locktest.AnyCalls(t, k, 1000+i)
	}
}

// Each context's calls follow each other, and all words are what they must be.
func TestCallsWithoutRestP16_1(t *testing.T) {
	r := locktest.Numbers(61)
	for i, of := range many() {
		in := locktest.Nodes()[i%5]
		for _, n := range []int{1, 2, 3, 5, 8, 17} {
			p := newPair(t, of, locktest.Within(n, 0, in)...)
			for range 3000 {
				p.GoesOn(r.Below(n), r.Below(n))
			}
		}
	}
}

// Behind all calls the passes are 0.
func TestPassesAreAtRestP16_1(t *testing.T) {
	r := locktest.Numbers(16)
	for i, of := range many() {
		p := newPair(t, of, locktest.Within(6, 0, locktest.Nodes()[i%5])...)
		for range 500 {
			p.GoesOn(r.Below(6), 0)
		}
		for range 500 {
			for c := range 6 {
				if p.Lock.State(c) != api.Idle {
					p.GoesOn(c, c)
				}
			}
		}
		if !p.AllIdle() {
			t.Fatalf("%v: some aren't at their ends", of)
		}
		words(p, passes{})
	}
}

func TestTwoLocksP16_1(t *testing.T) {
	for i, k := range kinds() {
		locktest.RowInOnePlan(t, k, 1500+i)
		locktest.PortsOfOnePlan(t, k, 1500+i)
	}
}

func TestUseOfOtherPortsP16_1(t *testing.T) {
	for i, k := range kinds() {
		locktest.UseOfOtherPorts(t, k, 500+i)
	}
}

// Of one node contexts are granted the lock in the order of their Enqs; who
// leads is who arrived, in that order; never two hold it.
func TestOrderP16_1(t *testing.T) {
	r := locktest.Numbers(164)
	for i, of := range many() {
		in := locktest.Nodes()[i%5]
		for _, n := range []int{1, 2, 3, 5, 8, 16, 40, 64} {
			p := newPair(t, of, locktest.Within(n, 0, in)...)
			o := locktest.NewOrder(p)
			o.Most = of.budget
			for range 3000 {
				c := r.Below(1 + r.Below(n))
				o.Takes(c, p.GoesOn(c, c))
			}
			o.HadBoth()
		}
	}
}

func TestOrderOnOneNodeP16_1(t *testing.T) {
	for _, of := range many() {
		for _, n := range []int{1, 2, 3, 7, 16} {
			locktest.GrantsInOrderOfEnqs(t, kind(of, n%8), n, 500)
		}
	}
}

func TestByTurnsAllComeToTheirEndsP16_1(t *testing.T) {
	for i, k := range kinds() {
		locktest.ByTurns(t, k, 1, 3)
		locktest.ByTurns(t, k, 2, 3)
		locktest.ByTurns(t, k, 5+i%12, 3)
	}
	for _, of := range slices.Concat(pairs(1), pairs(1000)) {
		locktest.ByTurns(t, kind(of), 64, 1)
	}
}

func TestHowManyContextsP16_1(t *testing.T) {
	for _, of := range pairs(2) {
		locktest.HowManyContexts(t, kind(of))
		locktest.HowManyContexts(t, kind(of, 6))
	}
}

func TestEachCallInEachStateP16_1(t *testing.T) {
	for _, k := range kinds() {
		locktest.EachCallInEachState(t, k)
	}
}

func TestDeadlinesAreNotTakenP16_1(t *testing.T) {
	for _, k := range kinds() {
		locktest.NoDeadlines(t, k)
	}
}

// Probe isn't taken: that is a wrong argument also of one who doesn't hold the
// lock, or is busy.
func TestProbeIsNotTakenP16_1(t *testing.T) {
	for _, of := range many() {
		for _, state := range locktest.States(false) {
			p := newPair(t, of, 1, 1)
			p.Bring(1, state)
			for _, c := range []int{0, 1, 2, -1} {
				if e := p.Probe(c); e != api.ErrArg {
					t.Errorf("%v, state %d: Probe(%d) = %d", of, state, c, e)
				}
			}
		}
	}
}

// What is refused changes nothing of the step that follows, wherever a call is.
func TestRefusedCallsChangeNothingP16_1(t *testing.T) {
	for _, of := range pairs(2) {
		p := newPair(t, of, 4, 4)
		want := slices.Concat(of.leading(), []api.Did{nothing, nothing}, of.ending())
		p.Calls(0)
		for _, did := range want {
			busy := api.ErrBusy
			if p.Lock.State(0) == api.Holding {
				p.Unlock(0)
			}
			if l, u, q, d := p.Call(0, -1), p.Unlock(0), p.Probe(0), p.Call(0, 5); l != busy || u != busy || q != api.ErrArg || d != api.ErrArg {
				t.Fatalf("Lock %d, Unlock %d, Probe %d, with a deadline %d", l, u, q, d)
			}
			p.Does(0, did)
		}
	}
}

func TestNoSuchContextP16_1(t *testing.T) {
	for _, of := range pairs(2) {
		locktest.NoSuchContext(t, kind(of))
	}
}

func TestStepOfIdleAndHoldingP16_1(t *testing.T) {
	for _, k := range kinds() {
		locktest.StepOfIdleAndHolding(t, k)
	}
}

func TestAnyTickP16_1(t *testing.T) {
	for _, k := range kinds() {
		locktest.AnyTick(t, k)
	}
}

func TestHomesStayTheAskersP16_1(t *testing.T) {
	for _, of := range pairs(2) {
		locktest.HomesStayTheAskers(t, kind(of))
	}
}

// refuses asks that New refuses.
func refuses(t *testing.T, want api.Errno, homes []int, global, local, budget int) {
	t.Helper()
	locktest.Refuses(t, want, func(p *plan.Plan) (bool, api.Errno) {
		l, e := cohort.New(p, homes, global, local, budget)
		return l == nil, e
	})
}

// Homes are asked first: a wrong configuration beside them is nothing.
func TestWrongHomesP16_1(t *testing.T) {
	for _, homes := range locktest.NoHomes() {
		refuses(t, api.ErrArg, homes, api.Ticket, api.Mcs, 1)
		refuses(t, api.ErrArg, homes, api.Mcs, api.Clh, 1000)
		refuses(t, api.ErrArg, homes, api.Clh, api.Mcs, 1)
		refuses(t, api.ErrArg, homes, api.Mcs, api.Slots, 1)
		refuses(t, api.ErrArg, homes, api.Mcs, api.Mcs, 0)
	}
}

// far are numbers of no kind, and no budgets; some of them would be one if they
// were cut to fewer bits.
func far() []int {
	return []int{-1, -2, -4, 1 << 32, 1<<32 + 1, 1<<32 + 3, 1<<32 + 4, 1<<16 + 1, -1 << 32, 1<<32 - 1, math.MinInt64, math.MaxInt64, math.MinInt32, math.MaxInt32}
}

func TestWrongConfigurationsP16_1(t *testing.T) {
	for _, homes := range [][]int{{0}, {7, 0, 7}, make([]int, 64)} {
		for _, global := range append(far(), 0, api.Slots, api.Clh, api.Abort, api.Hier, api.Cohort, 8, 257, 260) {
			for _, local := range []int{api.Ticket, api.Clh, api.Mcs, api.Slots} {
				refuses(t, api.ErrConfig, homes, global, local, 1)
			}
		}
		for _, local := range append(far(), 0, api.Slots, api.Abort, api.Hier, api.Cohort, 8, 257, 259, 260) {
			for _, global := range []int{api.Ticket, api.Mcs, api.Clh} {
				refuses(t, api.ErrConfig, homes, global, local, 1000)
			}
		}
		for _, budget := range append(far(), 0, 1001, 1002, 1024, 2000, 4096, 1<<16) {
			for _, of := range pairs(budget) {
				refuses(t, api.ErrConfig, homes, of.global, of.local, of.budget)
			}
		}
	}
}

func TestRightConfigurationsP16_1(t *testing.T) {
	for budget := 1; budget <= api.MaxBudget; budget++ {
		for _, of := range pairs(budget) {
			if l, e := cohort.New(plan.New(1), []int{0}, of.global, of.local, of.budget); l == nil || e != api.OK {
				t.Errorf("%v: %d", of, e)
			}
		}
	}
}

// All locks can do what a Locker can.
func TestLockersP16_1(t *testing.T) {
	p, homes := plan.New(2), []int{1, 2}
	a, _ := flat.New(p, homes, 0)
	b, _ := slots.New(p, homes, 2, 0)
	c, _ := clh.New(p, homes)
	d, _ := mcs.New(p, homes)
	e, _ := abort.New(p, homes, 1)
	f, _ := hier.New(p, homes)
	g, _ := cohort.New(p, homes, api.Mcs, api.Mcs, 1)
	x, _ := p.Port()
	for i, l := range []cohort.Locker{a, b, c, d, e, f, g} {
		l.Use(x)
		l.Lock(1, -1)
		for range 20 {
			l.Step(1, 1, 0)
		}
		if l.Len() != 2 || l.State(1) != api.Holding || l.Unlock(0) != api.ErrNotHeld || l.Probe(-1) != api.ErrArg {
			t.Errorf("%d: %d contexts, state %d", i, l.Len(), l.State(1))
		}
	}
}

func TestOneAccessAStepP16_2(t *testing.T) {
	for i, k := range kinds() {
		locktest.OneAccessAStep(t, k, 2000+i)
	}
}

func TestNoAccessButAStepsP16_2(t *testing.T) {
	for _, k := range kinds() {
		locktest.NoAccessButAStep(t, k)
	}
}

// Each step of a call that is under way has just one access, one that waits too.
func TestEachStepHasItsAccessP16_2(t *testing.T) {
	r := locktest.Numbers(162)
	for i, of := range many() {
		p := newPair(t, of, locktest.Within(5, 0, locktest.Nodes()[i%5])...)
		for range 3000 {
			c := r.Below(5)
			was, want := p.Port.Accesses(c), 1
			if s := p.Lock.State(c); s == api.Idle || s == api.Holding {
				want = 0
			}
			p.GoesOn(c, c)
			if got := p.Port.Accesses(c) - was; got != want {
				t.Fatalf("%v: %d accesses, want %d", of, got, want)
			}
		}
	}
}

// byTurns steps all contexts by turns, who call again and again, till there were
// so many grants; it tells who they were.
func byTurns(p *locktest.Pair, o *locktest.Order, grants int) []int {
	p.Helper()
	var all []int
	for range 100 * grants {
		for c := range p.Lock.Len() {
			did := p.GoesOn(c, c)
			o.Takes(c, did)
			if did.Event == api.Granted {
				all = append(all, c)
			}
		}
		if len(all) >= grants {
			return all[:grants]
		}
	}
	p.Fatalf("%d grants, want %d", len(all), grants)
	return nil
}

// While two nodes wait, each has just as many in a row as the budget is, and
// then it is the other one's time.
func TestRowsP16_3(t *testing.T) {
	for _, budget := range []int{1, 2, 3, 7, 20} {
		for _, of := range pairs(budget) {
			p := newPair(t, of, locktest.Within(12, 0, []int{6, 1})...)
			o := locktest.NewOrder(p)
			o.Most = budget
			for i, c := range byTurns(p, o, 6*budget) {
				if want := i / budget % 2; c%2 != want {
					t.Fatalf("%v: the grant %d is that of %d", of, i, c)
				}
			}
			if o.Longest != budget {
				t.Errorf("%v: %d in a row", of, o.Longest)
			}
		}
	}
}

// The greatest budget is one too: a thousand in a row while another node waits.
func TestThousandInARowP16_3(t *testing.T) {
	for _, of := range pairs(1000) {
		p := newPair(t, of, 5, 2, 5, 5, 5)
		o := locktest.NewOrder(p)
		o.Most = 1000
		all := byTurns(p, o, 1002)
		if i := slices.Index(all, 1); o.Longest != 1000 || i != 1000 {
			t.Errorf("%v: %d in a row; the other node's grant is the one numbered %d", of, o.Longest, i)
		}
	}
}

// Nobody of another node waits: also then a time ends behind so many, and the
// next one leads.
func TestRowsOfOneNodeP16_3(t *testing.T) {
	for _, budget := range []int{1, 2, 5} {
		for _, of := range pairs(budget) {
			p := newPair(t, of, 4, 4, 4, 4)
			o := locktest.NewOrder(p)
			o.Most = budget
			byTurns(p, o, 10*budget)
			if o.Longest != budget {
				t.Errorf("%v: %d in a row", of, o.Longest)
			}
		}
	}
}

// A row of two, all words known: the third one of the node waits till the other
// node had its time.
func TestRowOfTwoP16_3(t *testing.T) {
	p := newPair(t, locks{api.Ticket, api.Ticket, 2}, 3, 3, 3, 0)
	p.Calls(0)
	p.Does(0, enq, nothing, nothing, arrive, nothing, leads)
	for c := 1; c < 4; c++ {
		queues(p, c)
	}
	words(p, only(3, 1), 2, 0, 1, 0, 3, 0)
	leaves(p, 0)
	words(p, only(3, 2), 2, 0, 1, 0, 3, 1)
	p.Does(1, nothing, granted)
	p.Unlock(1)
	p.Does(1, nothing, nothing)
	words(p, passes{}, 2, 0, 1, 0, 3, 1)
	p.Does(1, nothing, released)
	words(p, passes{}, 2, 1, 1, 0, 3, 2)
	p.Does(2, nothing, nothing, arrive, nothing)
	words(p, passes{}, 3, 1, 1, 0, 3, 2)
	p.Does(3, nothing, leads)
	words(p, only(0, 1), 3, 1, 1, 0, 3, 2)
	p.Does(2, nothing)
	p.Unlock(3)
	p.Does(3, nothing, nothing, nothing)
	p.Does(2, nothing)
	p.Does(3, nothing)
	p.Does(2, nothing)
	p.Does(3, released)
	words(p, passes{}, 3, 2, 1, 1, 3, 2)
	p.Does(2, leads)
	words(p, only(3, 1), 3, 2, 1, 1, 3, 2)
	leaves(p, 2)
	words(p, passes{}, 3, 3, 1, 1, 3, 3)
}

// halfway is a cohort of which the context 0 has the lock, and calls to unlock it;
// the context 1, of its node, has swapped and not stored yet; the context 2, of
// another node, waits.
func halfway(t *testing.T, global int) *locktest.Pair {
	t.Helper()
	of := locks{global, api.Mcs, 5}
	p := newPair(t, of, 4, 4, 2)
	p.Calls(0)
	p.Does(0, of.leading()...)
	p.Calls(1)
	p.Does(1, nothing, enq)
	queues(p, 2)
	p.Unlock(0)
	return p
}

// Somebody of its node has swapped and not stored yet as it asks: its node's time
// ends early, the other node has its own, and then that one leads; it gives its
// local lock on when that one has stored.
func TestAloneIsWrongP16_4(t *testing.T) {
	for _, global := range []int{api.Ticket, api.Mcs} {
		p := halfway(t, global)
		p.Does(0, nothing, nothing)
		words(p, only(4, 1))
		p.Does(0, nothing)
		words(p, passes{})
		p.Does(0, quits(global, nothing)...)
		p.Does(2, nothing, leads)
		words(p, only(2, 1))
		for range 100 {
			p.Does(0, nothing)
		}
		p.Does(1, nothing)
		p.Does(0, nothing)
		p.Does(1, nothing, nothing)
		p.Does(0, nothing, released)
		for range 20 {
			if did := p.Step(1, 1, 0); did.Event != api.None {
				t.Fatalf("it has the lock beside another node's: %v", did)
			}
		}
		words(p, only(2, 1))
		leaves(p, 2)
		words(p, passes{})
		p.Does(1, nothing, leads)
		words(p, only(4, 1))
		leaves(p, 1)
		words(p, passes{})
	}
}

// It stores ahead of the Probe: its node's time goes on.
func TestAloneIsRightP16_4(t *testing.T) {
	for _, global := range []int{api.Ticket, api.Mcs} {
		p := halfway(t, global)
		p.Does(0, nothing)
		p.Does(1, nothing, nothing)
		p.Does(0, nothing, nothing)
		words(p, only(4, 2))
		p.Does(1, nothing)
		p.Does(0, nothing, released)
		p.Does(1, nothing, granted)
		words(p, only(4, 2))
	}
}

// Each order of what three contexts do in their next steps, of whom two share a
// node whose Probe may be wrong: one holds the lock at a time, and all come to
// their ends.
func TestEachOrderOfThreeP16_4(t *testing.T) {
	const long = 8
	early := 0
	for script := range int(math.Pow(3, long)) {
		p := newPair(t, locks{api.Mcs, api.Mcs, 2}, 4, 4, 2)
		o := locktest.NewOrder(p)
		o.Most = 2
		for c := range 3 {
			p.Calls(c)
		}
		for p.Lock.State(0) == api.Locking {
			steps(p, o, 0)
		}
		for range long {
			steps(p, o, script%3)
			script /= 3
		}
		for range 60 {
			for c := range 3 {
				steps(p, o, c)
			}
		}
		if !p.AllIdle() {
			t.Fatalf("some aren't at their ends")
		}
		words(p, passes{}, global(0)[:1]...)
		if o.Longest == 1 {
			early++
		}
	}
	if early == 0 {
		t.Error("no time ended early")
	}
}

// steps does a context's step; if it is granted the lock, it unlocks.
func steps(p *locktest.Pair, o *locktest.Order, c int) {
	p.Helper()
	did := p.Step(c, c, 0)
	o.Takes(c, did)
	if did.Event == api.Granted {
		p.Unlock(c)
	}
}
