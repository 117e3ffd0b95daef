package two_test

import (
	"fmt"
	"math"
	"slices"
	"strings"
	"testing"

	"weighlock/locktest"
	"weighlock/trace"
	"weighlock/two"
)

// model is what the chapter says, told from the entries that fit so far: what a
// thread does hangs on its last one alone.
type model struct {
	homes  []int
	budget int
	taken  []trace.Entry
	lasts  []trace.Entry // of each thread that has one, in their order
	enqs   []trace.Entry // the last one of each thread that has one, in their order
	row    []trace.Entry // the Grants from the last Lead on
}

// newModel is that at first.
func newModel(homes []int, budget int) *model {
	if len(homes) > 64 {
		homes = homes[:64]
	}
	if budget < 0 {
		budget = 0
	}
	return &model{homes: slices.Clone(homes), budget: budget}
}

// last is the kind of a thread's last entry; 0: it has none.
func (m *model) last(t int) int {
	for _, e := range m.lasts {
		if e.Thread == t {
			return e.Kind
		}
	}
	return 0
}

// with are the threads whose last entry is of this kind, in the order of these
// entries.
func (m *model) with(kind int) []int {
	var threads []int
	for _, e := range m.lasts {
		if e.Kind == kind {
			threads = append(threads, e.Thread)
		}
	}
	return threads
}

// queue is a node's.
func (m *model) queue(node int) []int {
	var threads []int
	for _, e := range m.enqs {
		last := m.last(e.Thread)
		if m.homes[e.Thread] == node && (last == trace.Enq || last == trace.Arrive) {
			threads = append(threads, e.Thread)
		}
	}
	return threads
}

// fits tells whether an entry does.
func (m *model) fits(e trace.Entry) bool {
	if e.Thread < 0 || e.Thread >= len(m.homes) {
		return false
	}
	last := m.last(e.Thread)
	switch {
	case e.Kind == trace.Grant && e.Lead:
		return last == trace.Arrive && m.turn(e.Thread) && m.with(trace.Arrive)[0] == e.Thread
	case e.Lead:
		return false
	case e.Kind == trace.Grant:
		return last == trace.Enq && m.turn(e.Thread) && m.goesOn(m.homes[e.Thread])
	}
	switch e.Kind {
	case trace.Call:
		return last == 0 || last == trace.Return
	case trace.Enq:
		return last == trace.Call
	case trace.Arrive:
		return last == trace.Enq
	case trace.Unlock:
		return last == trace.Grant
	case trace.Return:
		return last == trace.Unlock
	}
	return false
}

// turn tells whether nobody is holding, and one that is in its node's queue is
// the first one there.
func (m *model) turn(t int) bool {
	return len(m.with(trace.Grant)) == 0 && m.queue(m.homes[t])[0] == t
}

// goesOn tells whether the time is a node's, and there may be one more Grant in
// it.
func (m *model) goesOn(node int) bool {
	n := len(m.row)
	return n > 0 && m.homes[m.row[0].Thread] == node && (n < m.budget || m.budget == 0)
}

// take takes an entry, if it fits.
func (m *model) take(e trace.Entry) bool {
	if !m.fits(e) {
		return false
	}
	m.taken = append(m.taken, e)
	m.lasts = lastOf(m.lasts, e)
	switch {
	case e.Kind == trace.Enq:
		m.enqs = lastOf(m.enqs, e)
	case e.Lead:
		m.row = []trace.Entry{e}
	case e.Kind == trace.Grant:
		m.row = append(m.row, e)
	}
	return true
}

// lastOf are entries of which a thread's is this one now, the last of all.
func lastOf(l []trace.Entry, e trace.Entry) []trace.Entry {
	return append(slices.DeleteFunc(l, func(earlier trace.Entry) bool { return earlier.Thread == e.Thread }), e)
}

// pair is the automaton, and its model.
type pair struct {
	*testing.T
	lock  *two.Lock
	model *model
}

// starts is an automaton of threads with these homes, at first.
func starts(t *testing.T, budget int, homes ...int) *pair {
	t.Helper()
	p := &pair{t, two.New(homes, budget), newModel(homes, budget)}
	p.holds()
	return p
}

// again is an automaton behind the entries that this one has taken.
func (p *pair) again() *pair {
	p.Helper()
	q := &pair{p.T, two.New(p.model.homes, p.model.budget), newModel(p.model.homes, p.model.budget)}
	for _, e := range p.model.taken {
		if !q.model.take(e) || !q.lock.Take(e) {
			p.Fatalf("%v: %v doesn't fit", p.model.taken, e)
		}
	}
	q.holds()
	return q
}

// takes takes one entry, and asks all behind it.
func (p *pair) takes(e trace.Entry) bool {
	p.Helper()
	before := p.model.taken
	got, want := p.lock.Take(e), p.model.take(e)
	if got != want {
		p.Fatalf("homes %v, budget %d, behind %v: Take(%v) = %t, want %t", p.model.homes, p.model.budget, before, e, got, want)
	}
	p.holds()
	return got
}

// any takes any entry; it begins anew where none fits any more.
func (p *pair) any(r *locktest.Numbers) {
	p.Helper()
	if m := p.model; len(m.rights()) == 0 {
		p.lock, p.model = two.New(m.homes, m.budget), newModel(m.homes, m.budget)
	}
	p.takes(p.model.anyEntry(r))
}

// fits takes some that must fit.
func (p *pair) fits(l ...trace.Entry) {
	p.Helper()
	for _, e := range l {
		if !p.takes(e) {
			p.Fatalf("behind %v: %v doesn't fit", p.model.taken, e)
		}
	}
}

// fitsNot takes some of which none may fit.
func (p *pair) fitsNot(l ...trace.Entry) {
	p.Helper()
	for _, e := range l {
		if p.takes(e) {
			p.Fatalf("%v: the last one fits", p.model.taken)
		}
	}
}

// does takes entries that are told in words, and must fit.
func (p *pair) does(words string) {
	p.Helper()
	p.fits(locktest.Read(p.T, words)...)
}

// doesNot takes some of which none may fit.
func (p *pair) doesNot(words string) {
	p.Helper()
	p.fitsNot(locktest.Read(p.T, words)...)
}

// holds asks the queues of all nodes, and of some that are nobody's, the row and
// the count.
func (p *pair) holds() {
	p.Helper()
	m := p.model
	for _, node := range append(nodes(m.homes), nobodys(m.homes)...) {
		if got, want := p.lock.Queue(node), m.queue(node); !slices.Equal(got, want) {
			p.Fatalf("homes %v, behind %v: Queue(%d) = %v, want %v", m.homes, m.taken, node, got, want)
		}
	}
	if got, want := p.lock.Row(), m.with(trace.Arrive); !slices.Equal(got, want) {
		p.Fatalf("homes %v, behind %v: Row() = %v, want %v", m.homes, m.taken, got, want)
	}
	if got, want := p.lock.Count(), len(m.row); got != want {
		p.Fatalf("homes %v, behind %v: Count() = %d, want %d", m.homes, m.taken, got, want)
	}
}

// nodes are those of these homes, rising.
func nodes(homes []int) []int { return slices.Compact(slices.Sorted(slices.Values(homes))) }

// nobodys are some nodes that none of these homes is.
func nobodys(homes []int) []int {
	all := []int{0, 5, 8, 64, 1 << 32, -1, -2, -8, math.MinInt64, math.MaxInt64}
	return slices.DeleteFunc(all, func(node int) bool { return slices.Contains(homes, node) })
}

// told is all that the automaton tells: each node's queue, the nodes rising, the
// row, the count, and whose Unlock fits.
func (p *pair) told() string {
	p.Helper()
	var all []any
	for _, node := range nodes(p.model.homes) {
		all = append(all, p.lock.Queue(node))
	}
	var holders []int
	for t := range p.model.homes {
		if p.again().takes(locktest.Of(trace.Unlock, t)) {
			holders = append(holders, t)
		}
	}
	return strings.TrimSpace(fmt.Sprintln(append(all, "row", p.lock.Row(), "count", p.lock.Count(), "holds", holders)...))
}

// step is entries in words, and what is told behind them.
type step struct{ words, told string }

// goes takes entries that all fit, and asks what is told, by numbers that the
// test names.
func (p *pair) goes(steps ...step) {
	p.Helper()
	for _, s := range steps {
		p.does(s.words)
		if got := p.told(); got != s.told {
			p.Fatalf("behind %q: %q, want %q", s.words, got, s.told)
		}
	}
}

// checks asks how many entries are a trace, and whether all are; and that nothing
// is written into.
func checks(t *testing.T, homes []int, budget int, l []trace.Entry, n int, all bool) {
	t.Helper()
	were, was := slices.Clone(homes), slices.Clone(l)
	if got, ok := two.Check(homes, budget, l); got != n || ok != all {
		t.Fatalf("Check(%v, %d, %v) = %d, %t, want %d, %t", were, budget, was, got, ok, n, all)
	}
	if !slices.Equal(l, was) || !slices.Equal(homes, were) {
		t.Fatalf("Check wrote %v over %v, %v over %v", l, was, homes, were)
	}
}

// isTrace asks that entries are a trace, and so is each beginning of them.
func isTrace(t *testing.T, homes []int, budget int, l []trace.Entry) {
	t.Helper()
	for n := range len(l) + 1 {
		checks(t, homes, budget, l[:n], n, true)
	}
}

// Entries.

// lead is a Grant with Lead.
func lead(t int) trace.Entry { return trace.Entry{Kind: trace.Grant, Thread: t, Lead: true} }

// each are the entries of each kind, of all these threads, with Lead and without.
func each(threads ...int) []trace.Entry {
	l := locktest.Each(threads...)
	for _, e := range l {
		e.Lead = true
		l = append(l, e)
	}
	return l
}

// noKinds are numbers of no kind, and those of Timeout and Refuse.
func noKinds() []int { return append(locktest.NoEntries(), trace.Timeout, trace.Refuse) }

// rights are all entries that fit.
func (m *model) rights() []trace.Entry {
	var l []trace.Entry
	for t := range m.homes {
		for _, kind := range []int{trace.Call, trace.Enq, trace.Arrive, trace.Grant, trace.Unlock, trace.Return} {
			l = append(l, locktest.Of(kind, t))
		}
		l = append(l, lead(t))
	}
	return slices.DeleteFunc(l, func(e trace.Entry) bool { return !m.fits(e) })
}

// blocks tells whether an entry is an Arrive ahead of somebody who was queued
// earlier: behind it there may come a time when nothing fits any more.
func (m *model) blocks(e trace.Entry) bool {
	if e.Kind != trace.Arrive {
		return false
	}
	for _, t := range m.queue(m.homes[e.Thread]) {
		if m.last(t) == trace.Enq {
			return t != e.Thread
		}
	}
	return false
}

// anyRight is an entry that fits, at any tick. Behind such ones alone there always
// is one, if there are threads. Grants come often: else so many arrive that none
// without Lead fits.
func (m *model) anyRight(r *locktest.Numbers) trace.Entry {
	l := slices.DeleteFunc(m.rights(), m.blocks)
	grants := slices.DeleteFunc(slices.Clone(l), func(e trace.Entry) bool { return e.Kind != trace.Grant })
	if len(grants) > 0 && r.Below(3) > 0 {
		l = grants
	}
	e := l[r.Below(len(l))]
	if e.Kind == trace.Arrive && r.Below(3) > 0 {
		e = l[r.Below(len(l))]
	}
	e.Now = r.Of(locktest.Ticks())
	return e
}

// anyEntry is any, of which many don't fit, and some can't.
func (m *model) anyEntry(r *locktest.Numbers) trace.Entry {
	n := len(m.homes)
	e := trace.Entry{Kind: 1 + r.Below(8), Thread: r.Below(max(n, 1)), Now: r.Of(locktest.Ticks()), Lead: r.Below(4) == 0}
	if l := slices.DeleteFunc(m.rights(), m.blocks); len(l) > 0 && r.Below(4) > 0 {
		e = m.anyRight(r)
	}
	switch r.Below(24) {
	case 0:
		e.Lead = !e.Lead
	case 1:
		e.Kind = r.Of(noKinds())
	case 2:
		e.Thread = r.Of(locktest.NoContexts(n))
	}
	return e
}

// anyWrong is any that doesn't fit.
func (m *model) anyWrong(r *locktest.Numbers) trace.Entry {
	e := m.anyEntry(r)
	for m.fits(e) {
		e = m.anyEntry(r)
	}
	return e
}

// anyTrace is one of so many entries.
func anyTrace(r *locktest.Numbers, homes []int, budget, n int) []trace.Entry {
	m := newModel(homes, budget)
	for range n {
		m.take(m.anyRight(r))
	}
	return m.taken
}

// crowds are homes of none, of one, of some and of many, on few nodes and on
// many, and on some that no machine has.
func crowds() [][]int {
	return [][]int{nil, {0}, {-1}, {0, 0}, {0, 1}, {3, 3, 3}, {7, 2, 7}, {1, 0, -1}, {0, 0, 1, 1, 0}, {math.MinInt64, math.MaxInt64, math.MinInt64, 1 << 32, 0, 1 << 32, 8},
		locktest.Homes(8, 0), locktest.Homes(63, 1), locktest.Homes(64, 2), locktest.Homes(65, 3), locktest.Within(200, 0, []int{4, 4, 6})}
}

// budgets are those that there may be, and some below.
func budgets() []int {
	return []int{0, 1, 2, 3, 5, 1000, math.MaxInt64, -1, -2, -1000, math.MinInt64, 1 - 1<<32, 1 << 32}
}
