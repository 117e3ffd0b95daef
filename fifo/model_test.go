package fifo_test

import (
	"slices"
	"testing"

	"weighlock/fifo"
	"weighlock/locktest"
	"weighlock/trace"
)

// model is what the chapter says, told from the entries that fit so far: what a
// thread does hangs on its last one alone.
type model struct {
	threads int
	taken   []trace.Entry
	lasts   []trace.Entry // of each thread that has one, in their order
}

// newModel is that at first.
func newModel(threads int) *model {
	switch {
	case threads < 0:
		threads = 0
	case threads > 64:
		threads = 64
	}
	return &model{threads: threads}
}

// last is the kind of a thread's last entry; 0: it has none.
func (m *model) last(t int) int {
	for _, e := range m.lasts {
		if e.Thread == t {
			return e.Kind
		}
	}
	return 0
}

// with are the threads whose last entry is of this kind, in the order of these
// entries.
func (m *model) with(kind int) []int {
	var threads []int
	for _, e := range m.lasts {
		if e.Kind == kind {
			threads = append(threads, e.Thread)
		}
	}
	return threads
}

// fits tells whether an entry does.
func (m *model) fits(e trace.Entry) bool {
	if e.Lead || e.Thread < 0 || e.Thread >= m.threads {
		return false
	}
	last := m.last(e.Thread)
	switch e.Kind {
	case trace.Call:
		return last == 0 || last == trace.Timeout || last == trace.Refuse || last == trace.Return
	case trace.Enq, trace.Refuse:
		return last == trace.Call
	case trace.Grant:
		return last == trace.Enq && m.with(trace.Enq)[0] == e.Thread && len(m.with(trace.Grant)) == 0
	case trace.Timeout:
		return last == trace.Call || last == trace.Enq
	case trace.Unlock:
		return last == trace.Grant
	case trace.Return:
		return last == trace.Unlock
	}
	return false
}

// take takes an entry, if it fits.
func (m *model) take(e trace.Entry) bool {
	fits := m.fits(e)
	if fits {
		m.taken = append(m.taken, e)
		earlier := slices.DeleteFunc(m.lasts, func(last trace.Entry) bool { return last.Thread == e.Thread })
		m.lasts = append(earlier, e)
	}
	return fits
}

// pair is the automaton, and its model.
type pair struct {
	*testing.T
	lock  *fifo.Lock
	model *model
}

// starts is an automaton of some threads, at first.
func starts(t *testing.T, threads int) *pair {
	t.Helper()
	p := &pair{t, fifo.New(threads), newModel(threads)}
	p.holds()
	return p
}

// behind is an automaton of some threads behind entries that all fit.
func behind(t *testing.T, threads int, l []trace.Entry) *pair {
	t.Helper()
	p := starts(t, threads)
	for _, e := range l {
		p.fits(e)
	}
	return p
}

// takes takes one entry, and asks all behind it.
func (p *pair) takes(e trace.Entry) bool {
	p.Helper()
	before := p.model.taken
	got, want := p.lock.Take(e), p.model.take(e)
	if got != want {
		p.Fatalf("behind %v: Take(%v) = %t, want %t", before, e, got, want)
	}
	p.holds()
	return got
}

// fits takes one that must fit.
func (p *pair) fits(e trace.Entry) {
	p.Helper()
	if !p.takes(e) {
		p.Fatalf("behind %v: %v doesn't fit", p.model.taken, e)
	}
}

// fitsNot takes some of which none may fit.
func (p *pair) fitsNot(l ...trace.Entry) {
	p.Helper()
	for _, e := range l {
		if p.takes(e) {
			p.Fatalf("%v: the last one fits", p.model.taken)
		}
	}
}

// holds asks the queue, and who is holding; and whether the trace that was taken
// says that, too.
func (p *pair) holds() {
	p.Helper()
	m := p.model
	if got, want := p.lock.Queue(), m.with(trace.Enq); !slices.Equal(got, want) {
		p.Fatalf("behind %v: Queue() = %v, want %v", m.taken, got, want)
	}
	holder, held := 0, false
	for _, t := range m.with(trace.Grant) {
		holder, held = t, true
	}
	if t, ok := p.lock.Holder(); t != holder || ok != held {
		p.Fatalf("behind %v: Holder() = %d, %t, want %d, %t", m.taken, t, ok, holder, held)
	}
	if t, ok := trace.Holder(m.taken); t != holder || ok != held {
		p.Fatalf("%v: the trace says %d, %t, the automaton %d, %t", m.taken, t, ok, holder, held)
	}
}

// tells asks the queue and who is holding (-1: nobody), by numbers that the test
// names.
func (p *pair) tells(holder int, queue ...int) {
	p.Helper()
	if got := p.lock.Queue(); !slices.Equal(got, queue) {
		p.Fatalf("behind %v: Queue() = %v, want %v", p.model.taken, got, queue)
	}
	t, ok := p.lock.Holder()
	if held := holder != -1; ok != held || t != max(holder, 0) {
		p.Fatalf("behind %v: Holder() = %d, %t, want %d", p.model.taken, t, ok, holder)
	}
}

// checks asks how many entries are a trace, and whether all are; and that none is
// written into.
func checks(t *testing.T, threads int, l []trace.Entry, n int, all bool) {
	t.Helper()
	was := slices.Clone(l)
	if got, ok := fifo.Check(threads, l); got != n || ok != all {
		t.Fatalf("Check(%d, %v) = %d, %t, want %d, %t", threads, was, got, ok, n, all)
	}
	if !slices.Equal(l, was) {
		t.Fatalf("Check wrote %v over %v", l, was)
	}
}

// isTrace asks that entries are a trace, and so is each beginning of them.
func isTrace(t *testing.T, threads int, l []trace.Entry) {
	t.Helper()
	for n := range len(l) + 1 {
		checks(t, threads, l[:n], n, true)
	}
}

// Entries.

// noKinds are numbers of no kind, and that of Arrive.
func noKinds() []int { return append(locktest.NoEntries(), trace.Arrive) }

// anyRight is an entry that fits, of any kind that one fits of, at any tick.
func (m *model) anyRight(r *locktest.Numbers) trace.Entry {
	kinds := []int{trace.Call, trace.Call, trace.Call, trace.Enq, trace.Enq, trace.Enq, trace.Grant, trace.Grant, trace.Unlock, trace.Return, trace.Timeout, trace.Refuse}
	for {
		e := trace.Entry{Kind: r.Of(kinds), Now: r.Of(locktest.Ticks())}
		first := r.Below(m.threads)
		for i := range m.threads {
			if e.Thread = (first + i) % m.threads; m.fits(e) {
				return e
			}
		}
	}
}

// anyEntry is any, of which many don't fit, and some can't.
func (m *model) anyEntry(r *locktest.Numbers) trace.Entry {
	e := trace.Entry{Kind: 1 + r.Below(8), Thread: r.Below(max(m.threads, 1)), Now: r.Of(locktest.Ticks())}
	if m.threads > 0 && r.Below(2) == 0 {
		e = m.anyRight(r)
	}
	switch r.Below(24) {
	case 0:
		e.Lead = true
	case 1:
		e.Kind = r.Of(noKinds())
	case 2:
		e.Thread = r.Of(locktest.NoContexts(m.threads))
	}
	return e
}

// anyTrace is one of so many entries.
func anyTrace(r *locktest.Numbers, threads, n int) []trace.Entry {
	m := newModel(threads)
	for range n {
		m.take(m.anyRight(r))
	}
	return m.taken
}
