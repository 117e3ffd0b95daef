package pool_test

import (
	"math"
	"slices"
	"testing"

	"weighlock/api"
	"weighlock/pool"
)

// item is a node of the model.
type item struct {
	id, owner int
	out       bool
}

// model is what the chapter says, in plain words: all nodes in one list, those
// last that became somebody's (or nobody's) last.
type model struct {
	threads int
	items   []item
}

func newModel(threads, each int) *model {
	m := &model{threads: threads}
	for t := range threads {
		for range each {
			m.items = append(m.items, item{id: len(m.items) + 1, owner: t})
		}
	}
	return m
}

// find is where a node stands in the list; -1: there is no such node.
func (m *model) find(id int) int {
	return slices.IndexFunc(m.items, func(x item) bool { return x.id == id })
}

func (m *model) of(id int) int {
	if i := m.find(id); i >= 0 {
		return m.items[i].owner
	}
	return -1
}

func (m *model) isOut(id int) bool {
	i := m.find(id)
	return i >= 0 && m.items[i].out
}

func (m *model) isThread(t int) bool { return 0 <= t && t < m.threads }

func (m *model) row(t int) []int {
	var row []int
	for _, x := range m.items {
		if m.isThread(t) && x.owner == t {
			row = append(row, x.id)
		}
	}
	return row
}

func (m *model) take(t int) (int, api.Errno) {
	for i, x := range m.items {
		if m.isThread(t) && x.owner == t && !x.out {
			m.items[i].out = true
			return x.id, api.OK
		}
	}
	return 0, api.ErrNone
}

func (m *model) back(id int) api.Errno {
	i := m.find(id)
	switch {
	case i < 0:
		return api.ErrArg
	case !m.items[i].out:
		return api.ErrNone
	}
	m.items[i].out = false
	return api.OK
}

func (m *model) give(id, to int) api.Errno {
	i := m.find(id)
	if i < 0 || to != -1 && !m.isThread(to) {
		return api.ErrArg
	}
	x := m.items[i]
	x.owner = to
	m.items = append(slices.Delete(m.items, i, i+1), x)
	return api.OK
}

// noNodes are numbers of no node where there are n; some of them would be
// within n if they were cut to fewer bits.
func noNodes(n int) []int {
	return []int{0, -1, -2, -n, n + 1, n + 2, 2*n + 1, math.MinInt64, math.MaxInt64, math.MinInt32, math.MaxInt32, 1 << 32, 1<<32 + 1, 1<<32 + n, -1<<32 + 1, 1<<16 + 1, 1<<10 + 1}
}

// noThreads are numbers of no thread where there are n, and not -1.
func noThreads(n int) []int {
	return []int{-2, -3, -n - 1, -64, n, n + 1, n + 64, math.MinInt64, math.MaxInt64, math.MinInt32, math.MaxInt32, 1 << 32, 1<<32 + n - 1, -1 << 32, 1<<32 - 1, 1 << 16, 64 << 8}
}

func newPool(t *testing.T, threads, each int) (*pool.Pool, *model) {
	t.Helper()
	p, e := pool.New(threads, each)
	if p == nil || e != api.OK {
		t.Fatalf("New(%d, %d) = %v, %d, want a pool", threads, each, p, e)
	}
	m := newModel(threads, each)
	holds(t, p, m)
	return p, m
}

// holds asks whose each node is, what is out, and all rows.
func holds(t *testing.T, p *pool.Pool, m *model) {
	t.Helper()
	if got := p.Len(); got != len(m.items) {
		t.Fatalf("Len() = %d, want %d", got, len(m.items))
	}
	for _, x := range m.items {
		if got := p.Of(x.id); got != x.owner {
			t.Fatalf("Of(%d) = %d, want %d", x.id, got, x.owner)
		}
		if got := p.Out(x.id); got != x.out {
			t.Fatalf("Out(%d) = %v, want %v", x.id, got, x.out)
		}
	}
	for u := range m.threads {
		if got, want := p.Row(u), m.row(u); !slices.Equal(got, want) {
			t.Fatalf("Row(%d) = %v, want %v", u, got, want)
		}
	}
}

// takes does Takes by these threads, and asks all behind each.
func takes(t *testing.T, p *pool.Pool, m *model, threads ...int) {
	t.Helper()
	for _, u := range threads {
		want, wantErr := m.take(u)
		if got, e := p.Take(u); got != want || e != wantErr {
			t.Fatalf("Take(%d) = %d, %d, want %d, %d", u, got, e, want, wantErr)
		}
		holds(t, p, m)
	}
}

// backs does Backs of these nodes, and asks all behind each.
func backs(t *testing.T, p *pool.Pool, m *model, ids ...int) {
	t.Helper()
	for _, id := range ids {
		want := m.back(id)
		if got := p.Back(id); got != want {
			t.Fatalf("Back(%d) = %d, want %d", id, got, want)
		}
		holds(t, p, m)
	}
}

// gives does one Give, and asks all behind it.
func gives(t *testing.T, p *pool.Pool, m *model, id, to int) {
	t.Helper()
	want := m.give(id, to)
	if got := p.Give(id, to); got != want {
		t.Fatalf("Give(%d, %d) = %d, want %d", id, to, got, want)
	}
	holds(t, p, m)
}

// isRow asks a row, by numbers that the test names.
func isRow(t *testing.T, p *pool.Pool, u int, want ...int) {
	t.Helper()
	if got := p.Row(u); !slices.Equal(got, want) {
		t.Fatalf("Row(%d) = %v, want %v", u, got, want)
	}
}

// isTaken asks what a Take tells, by numbers that the test names.
func isTaken(t *testing.T, p *pool.Pool, u, want int, wantErr api.Errno) {
	t.Helper()
	if got, e := p.Take(u); got != want || e != wantErr {
		t.Fatalf("Take(%d) = %d, %d, want %d, %d", u, got, e, want, wantErr)
	}
}

// eachOnce asks that all rows and what is nobody's have together each node
// once, and that Of tells the same.
func eachOnce(t *testing.T, p *pool.Pool, threads int) {
	t.Helper()
	seen := make([]int, p.Len()+1)
	for u := range threads {
		for _, id := range p.Row(u) {
			if id < 1 || id > p.Len() {
				t.Fatalf("Row(%d) = %v: there is no node %d", u, p.Row(u), id)
			}
			seen[id]++
			if p.Of(id) != u {
				t.Fatalf("the node %d is in the row of %d, and Of(%d) = %d", id, u, id, p.Of(id))
			}
		}
	}
	for id := 1; id <= p.Len(); id++ {
		if p.Of(id) == -1 {
			seen[id]++
		}
		if seen[id] != 1 {
			t.Fatalf("the node %d is in rows, or nobody's, %d times, want once", id, seen[id])
		}
	}
}

// TestExampleP6_1: of two threads with two nodes each, Row(1) is 3, 4.
func TestExampleP6_1(t *testing.T) {
	p, _ := newPool(t, 2, 2)
	isRow(t, p, 0, 1, 2)
	isRow(t, p, 1, 3, 4)
}

func TestNewP6_1(t *testing.T) {
	for _, threads := range []int{1, 2, 3, 63, 64} {
		for _, each := range []int{1, 2, 7, 8} {
			p, _ := newPool(t, threads, each)
			if got := p.Len(); got != threads*each {
				t.Errorf("Len() = %d of %d threads with %d nodes each", got, threads, each)
			}
			for id := 1; id <= threads*each; id++ {
				if got := p.Of(id); got != (id-1)/each || p.Out(id) {
					t.Errorf("Of(%d) = %d, and Out is %v, of %d threads with %d nodes each", id, got, p.Out(id), threads, each)
				}
			}
			eachOnce(t, p, threads)
		}
	}
}

func TestNewRefusedP6_1(t *testing.T) {
	threads := []int{0, -1, -64, 65, 66, 128, 256 + 1, 1 << 32, 1<<32 + 1, -1<<32 + 1, math.MinInt64, math.MaxInt64}
	each := []int{0, -1, -8, 9, 10, 16, 256 + 1, 1 << 32, 1<<32 + 1, -1<<32 + 1, math.MinInt64, math.MaxInt64}
	refused := func(threads, each int) {
		t.Helper()
		if p, e := pool.New(threads, each); p != nil || e != api.ErrArg {
			t.Errorf("New(%d, %d) = %v, %d, want nil, %d", threads, each, p, e, api.ErrArg)
		}
	}
	for _, n := range threads {
		for _, k := range append([]int{1, 8}, each...) {
			refused(n, k)
		}
	}
	for _, k := range each {
		for _, n := range []int{1, 64} {
			refused(n, k)
		}
	}
}

func TestTakeAndBackP6_1(t *testing.T) {
	p, m := newPool(t, 3, 3)
	takes(t, p, m, 1, 0, 1, 2, 1)
	isTaken(t, p, 1, 0, api.ErrNone)
	backs(t, p, m, 5)
	takes(t, p, m, 1, 1)
	backs(t, p, m, 6, 4)
	// The first one of the row that isn't out, whichever came back first.
	isTaken(t, p, 1, 4, api.OK)
	isTaken(t, p, 1, 6, api.OK)
	isTaken(t, p, 1, 0, api.ErrNone)
	isTaken(t, p, 0, 2, api.OK)
}

func TestAllOutP6_1(t *testing.T) {
	for _, threads := range []int{1, 2, 64} {
		for _, each := range []int{1, 8} {
			p, m := newPool(t, threads, each)
			for u := threads - 1; u >= 0; u-- {
				for range each + 2 {
					takes(t, p, m, u)
				}
				isTaken(t, p, u, 0, api.ErrNone)
			}
			for id := 1; id <= p.Len(); id++ {
				if !p.Out(id) {
					t.Fatalf("Out(%d) = false behind %d Takes of each thread", id, each+2)
				}
			}
			for id := p.Len(); id >= 1; id -= 2 {
				backs(t, p, m, id, id)
				takes(t, p, m, p.Of(id), p.Of(id))
			}
		}
	}
}

func TestBackOfWhatIsNotOutP6_1(t *testing.T) {
	p, m := newPool(t, 2, 2)
	for id := 1; id <= 4; id++ {
		if got := p.Back(id); got != api.ErrNone {
			t.Errorf("Back(%d) = %d, want %d: it was never out", id, got, api.ErrNone)
		}
	}
	takes(t, p, m, 1)
	backs(t, p, m, 4, 2, 3)
	if got := p.Back(3); got != api.ErrNone {
		t.Errorf("Back(3) = %d, want %d: it is back already", got, api.ErrNone)
	}
	gives(t, p, m, 3, -1)
	backs(t, p, m, 3)
	holds(t, p, m)
}

func TestGiveToAnotherP6_1(t *testing.T) {
	p, m := newPool(t, 3, 3)
	gives(t, p, m, 2, 2)
	isRow(t, p, 0, 1, 3)
	isRow(t, p, 2, 7, 8, 9, 2)
	gives(t, p, m, 9, 0)
	gives(t, p, m, 7, 0)
	isRow(t, p, 0, 1, 3, 9, 7)
	isRow(t, p, 1, 4, 5, 6)
	isRow(t, p, 2, 8, 2)
	// Takes go by the row, not by the numbers.
	for _, want := range []int{1, 3, 9, 7} {
		isTaken(t, p, 0, want, api.OK)
	}
	isTaken(t, p, 0, 0, api.ErrNone)
}

func TestGiveToItsOwnP6_1(t *testing.T) {
	p, m := newPool(t, 2, 4)
	gives(t, p, m, 2, 0)
	isRow(t, p, 0, 1, 3, 4, 2)
	gives(t, p, m, 1, 0)
	isRow(t, p, 0, 3, 4, 2, 1)
	gives(t, p, m, 1, 0) // it is last already
	isRow(t, p, 0, 3, 4, 2, 1)
	isRow(t, p, 1, 5, 6, 7, 8)
	isTaken(t, p, 0, 3, api.OK)
	alone, n := newPool(t, 1, 1)
	gives(t, alone, n, 1, 0)
	isRow(t, alone, 0, 1)
}

func TestGiveWhileOutP6_1(t *testing.T) {
	p, m := newPool(t, 2, 2)
	takes(t, p, m, 0)
	for _, to := range []int{1, 0, 0, -1, -1, 1} {
		gives(t, p, m, 1, to)
		if !p.Out(1) {
			t.Fatalf("Out(1) = false behind Give(1, %d), want true", to)
		}
	}
	isRow(t, p, 1, 3, 4, 1)
	takes(t, p, m, 1, 1, 1) // the last one finds none: 1 is out
	backs(t, p, m, 1)
	isTaken(t, p, 1, 1, api.OK)
}

func TestGiveWhileInP6_1(t *testing.T) {
	p, m := newPool(t, 2, 2)
	takes(t, p, m, 0, 0)
	backs(t, p, m, 2)
	for _, to := range []int{1, 1, -1, 0} {
		gives(t, p, m, 2, to)
		if p.Out(2) || !p.Out(1) {
			t.Fatalf("Out(2), Out(1) = %v, %v behind Give(2, %d), want false, true", p.Out(2), p.Out(1), to)
		}
	}
}

func TestNobodysP6_1(t *testing.T) {
	p, m := newPool(t, 2, 2)
	takes(t, p, m, 1)
	gives(t, p, m, 3, -1)
	gives(t, p, m, 1, -1)
	if p.Of(3) != -1 || p.Of(1) != -1 || p.Len() != 4 {
		t.Fatalf("Of(3), Of(1), Len() = %d, %d, %d, want -1, -1, 4", p.Of(3), p.Of(1), p.Len())
	}
	isRow(t, p, 0, 2)
	isRow(t, p, 1, 4)
	// Nobody's nodes are nobody's to take, not the thread -1's.
	isTaken(t, p, -1, 0, api.ErrNone)
	isRow(t, p, -1)
	backs(t, p, m, 3, 3, 1)
	isTaken(t, p, -1, 0, api.ErrNone)
	gives(t, p, m, 1, -1)
	gives(t, p, m, 3, 0)
	gives(t, p, m, 1, 1)
	isRow(t, p, 0, 2, 3)
	isRow(t, p, 1, 4, 1)
	takes(t, p, m, 0, 0, 0, 1, 1, 1)
}

func TestThreadWithoutNodesP6_1(t *testing.T) {
	for _, each := range []int{1, 8} {
		p, m := newPool(t, 2, each)
		for id := 1; id <= each; id++ {
			gives(t, p, m, id, -id%2) // some are nobody's, some go to its own end
		}
		for id := 1; id <= each; id++ {
			gives(t, p, m, id, 1)
		}
		isRow(t, p, 0)
		isTaken(t, p, 0, 0, api.ErrNone)
		for range 2*each + 1 {
			takes(t, p, m, 0, 1)
		}
		gives(t, p, m, each, 0)
		isRow(t, p, 0, each)
		isTaken(t, p, 0, 0, api.ErrNone) // it is out
	}
}

func TestAllNodesOfOneP6_1(t *testing.T) {
	p, m := newPool(t, 64, 8)
	for id := 512; id >= 1; id-- {
		gives(t, p, m, id, 63)
	}
	for want := 512; want >= 1; want-- {
		isTaken(t, p, 63, want, api.OK)
	}
	isTaken(t, p, 63, 0, api.ErrNone)
	eachOnce(t, p, 64)
}

func TestNodesThatThereAreNotP6_1(t *testing.T) {
	for _, size := range [][2]int{{1, 1}, {2, 2}, {3, 8}, {64, 1}, {64, 8}} {
		p, m := newPool(t, size[0], size[1])
		takes(t, p, m, 0, size[0]-1)
		gives(t, p, m, 1, -1)
		for _, id := range noNodes(size[0] * size[1]) {
			if p.Of(id) != -1 || p.Out(id) {
				t.Errorf("Of(%d), Out(%d) = %d, %v, want -1, false: there is no such node", id, id, p.Of(id), p.Out(id))
			}
			if got := p.Back(id); got != api.ErrArg {
				t.Errorf("Back(%d) = %d, want %d: there is no such node", id, got, api.ErrArg)
			}
			for _, to := range []int{0, size[0] - 1, size[0], -1, -2} {
				if got := p.Give(id, to); got != api.ErrArg {
					t.Errorf("Give(%d, %d) = %d, want %d: there is no such node", id, to, got, api.ErrArg)
				}
			}
			holds(t, p, m)
		}
	}
}

func TestThreadsThatThereAreNotP6_1(t *testing.T) {
	for _, size := range [][2]int{{1, 1}, {2, 2}, {3, 8}, {63, 1}, {64, 8}} {
		p, m := newPool(t, size[0], size[1])
		takes(t, p, m, 0)
		gives(t, p, m, 1, -1)
		backs(t, p, m, 1)
		for _, u := range append(noThreads(size[0]), -1) {
			if got := p.Row(u); len(got) != 0 {
				t.Errorf("Row(%d) = %v, want nothing: there is no such thread", u, got)
			}
			isTaken(t, p, u, 0, api.ErrNone)
			holds(t, p, m)
		}
		for _, to := range noThreads(size[0]) {
			for _, id := range []int{1, p.Len()} { // nobody's, and somebody's
				if got := p.Give(id, to); got != api.ErrArg {
					t.Errorf("Give(%d, %d) = %d, want %d: there is no such thread", id, to, got, api.ErrArg)
				}
				holds(t, p, m)
			}
		}
	}
}

// TestRowsAreTheAskersP6_1: what is done to an answered row changes nothing of
// the pool, and what is done to the pool nothing of the answered row.
func TestRowsAreTheAskersP6_1(t *testing.T) {
	p, m := newPool(t, 2, 4)
	gives(t, p, m, 1, 1) // now the row of 0 has room for one more behind it
	row, other := p.Row(0), p.Row(0)
	clear(row)
	holds(t, p, m)
	if !slices.Equal(other, []int{2, 3, 4}) {
		t.Fatalf("a row is %v as another answer was changed, want [2 3 4]", other)
	}
	_ = append(other, 99)
	holds(t, p, m)
	gives(t, p, m, 5, 0)
	_ = append(other, 98)
	holds(t, p, m)
	gives(t, p, m, 2, -1)
	gives(t, p, m, 3, 0)
	takes(t, p, m, 0)
	if !slices.Equal(other, []int{2, 3, 4}) {
		t.Errorf("an answered row is %v behind Gives, want [2 3 4]", other)
	}
}

func TestPoolsAreApartP6_1(t *testing.T) {
	p, m := newPool(t, 2, 2)
	q, n := newPool(t, 2, 2)
	takes(t, p, m, 0, 1)
	gives(t, p, m, 4, 0)
	gives(t, p, m, 1, -1)
	holds(t, q, n)
	takes(t, q, n, 1, 1)
	gives(t, q, n, 3, 0)
	holds(t, p, m)
}

// TestAskingChangesNothingP6_1: Len, Of, Row and Out only tell.
func TestAskingChangesNothingP6_1(t *testing.T) {
	p, m := newPool(t, 2, 3)
	takes(t, p, m, 0)
	gives(t, p, m, 4, 0)
	for range 3 {
		holds(t, p, m)
	}
	isTaken(t, p, 0, 2, api.OK)
}

func TestEachNodeOnceP6_2(t *testing.T) {
	for _, size := range [][2]int{{1, 1}, {1, 8}, {2, 2}, {64, 1}, {64, 8}} {
		threads := size[0]
		p, _ := newPool(t, threads, size[1])
		eachOnce(t, p, threads)
		for id := 0; id <= p.Len()+1; id++ {
			for _, to := range []int{p.Of(id), -1, -1, 0, 0, threads - 1, threads, -2, id % threads} {
				p.Give(id, to)
				eachOnce(t, p, threads)
			}
		}
	}
}

func TestEachNodeOnceWhileOutP6_2(t *testing.T) {
	p, _ := newPool(t, 3, 2)
	for i := range 60 {
		p.Take(i % 3)
		eachOnce(t, p, 3)
		p.Give(i%6+1, i%5-1)
		eachOnce(t, p, 3)
		p.Back(i%7 + 1)
		eachOnce(t, p, 3)
	}
}

func TestAllNobodysP6_2(t *testing.T) {
	p, m := newPool(t, 2, 2)
	takes(t, p, m, 0)
	for id := 4; id >= 1; id-- {
		gives(t, p, m, id, -1)
		eachOnce(t, p, 2)
	}
	isRow(t, p, 0)
	isRow(t, p, 1)
	takes(t, p, m, 0, 1)
	for _, id := range []int{2, 4, 1, 3} {
		gives(t, p, m, id, id%2)
		eachOnce(t, p, 2)
	}
	isRow(t, p, 0, 2, 4)
	isRow(t, p, 1, 1, 3)
}

// lcg gives numbers that look like any, the same ones each time.
type lcg uint64

func (g *lcg) below(n int) int {
	*g = *g*6364136223846793005 + 1442695040888963407
	return int(uint64(*g)>>33) % n
}

// node is mostly one of n, and now and then no node.
func (g *lcg) node(n int) int {
	if g.below(12) == 0 {
		beside := noNodes(n)
		return beside[g.below(len(beside))]
	}
	return 1 + g.below(n)
}

// thread is mostly one of n, and now and then -1, or no thread.
func (g *lcg) thread(n int) int {
	switch g.below(12) {
	case 0:
		beside := noThreads(n)
		return beside[g.below(len(beside))]
	case 1, 2:
		return -1
	}
	return g.below(n)
}

// TestAnyCallsP6_1 does calls in any order, and asks all behind each.
func TestAnyCallsP6_1(t *testing.T) {
	for seed := range 150 {
		g := lcg(seed)
		threads, each := []int{1, 2, 3, 5, 33, 63, 64}[g.below(7)], 1+g.below(8)
		p, m := newPool(t, threads, each)
		most := g.below(3) // what most calls are, so that rows grow, or all are out
		for range 200 {
			kind := most
			if g.below(2) == 0 {
				kind = g.below(3)
			}
			switch kind {
			case 0:
				takes(t, p, m, g.thread(threads))
			case 1:
				backs(t, p, m, g.node(p.Len()))
			case 2:
				gives(t, p, m, g.node(p.Len()), g.thread(threads))
			}
		}
		eachOnce(t, p, threads)
	}
}
