package locktest

import (
	"math"
	"slices"

	"weighlock/api"
	"weighlock/plan"
	"weighlock/port"
)

// AnyCalls does any calls and steps, of few contexts and of many.
func AnyCalls(t T, k Kind, steps int) {
	t.Helper()
	r := Numbers(steps)
	for _, n := range []int{1, 2, 3, 4, 7, 8, 63, 64} {
		p := New(t, 1+r.Below(api.MaxThreads), k, k.homes(n, r.Below(api.MaxNodes))...)
		for range steps {
			p.Any(&r)
		}
	}
}

// RowInOnePlan does any calls and steps of locks in one plan: none changes
// anything of another.
func RowInOnePlan(t T, k Kind, steps int) {
	t.Helper()
	r := Numbers(steps)
	pairs := NewRow(t, 9, k, k.homes(3, 6), k.homes(2, 4), k.homes(1, 5))
	for range steps {
		pairs[r.Below(3)].Any(&r)
		for _, p := range pairs {
			p.Holds()
		}
	}
}

// PortsOfOnePlan does any calls and steps of two locks in one plan, over a port
// each: what are the other one's words stays in each of them what it was.
func PortsOfOnePlan(t T, k Kind, steps int) {
	t.Helper()
	r := Numbers(steps)
	laid, by := plan.New(4), plan.New(4)
	pairs := []*Pair{lay(t, laid, by, k, k.homes(3, 1)), lay(t, laid, by, k, k.homes(2, 7))}
	for _, p := range pairs {
		p.Use(ports(t, laid, by))
	}
	for range steps {
		pairs[r.Below(2)].Any(&r)
		pairs[0].Holds()
		pairs[1].Holds()
	}
}

// UseOfOtherPorts uses a lock over one port and then another, and the first one
// again, in the midst of calls: each access is of the words of the last one.
func UseOfOtherPorts(t T, k Kind, steps int) {
	t.Helper()
	r := Numbers(steps)
	laid, by := plan.New(4), plan.New(4)
	p := lay(t, laid, by, k, k.homes(3, 1))
	var all [3][2]*port.Port
	for i := range all {
		x, y := ports(t, laid, by)
		all[i] = [2]*port.Port{x, y}
	}
	for range steps / 8 {
		to := all[r.Below(len(all))]
		p.Use(to[0], to[1])
		for range r.Below(16) {
			p.Any(&r)
			for _, a := range all {
				same(t, a[0], a[1])
			}
		}
	}
}

// GrantsInOrderOfEnqs holds who is granted the lock against who got a place
// first, where all step in any order.
func GrantsInOrderOfEnqs(t T, k Kind, n, steps int) {
	t.Helper()
	r := Numbers(n)
	p := New(t, n, k, k.homes(n, 1)...)
	var queue []int
	for range steps {
		c := r.Below(n)
		switch p.Lock.State(c) {
		case api.Idle:
			p.Calls(c)
		case api.Holding:
			p.Unlock(c)
		}
		did := p.Step(c, c, 0)
		if did.Enq {
			queue = append(queue, c)
		}
		if did.Event != api.Granted {
			continue
		}
		if c != queue[0] {
			t.Fatalf("%d was granted the lock ahead of %v", c, queue)
		}
		queue = queue[1:]
	}
}

// ByTurns steps all contexts by turns; each calls for the lock so often, and
// unlocks it, and must be at its end then.
func ByTurns(t T, k Kind, n, calls int) {
	t.Helper()
	p := New(t, n, k, k.homes(n, 2)...)
	left := slices.Repeat([]int{calls}, n)
	for range 16 * n * calls {
		for c := range n {
			p.goOn(c, left)
		}
		if p.AllIdle() && !slices.ContainsFunc(left, func(calls int) bool { return calls > 0 }) {
			return
		}
	}
	t.Fatalf("of %d contexts some aren't at their ends; calls left: %v", n, left)
}

// goOn does what a context does by turns: it calls, unlocks when it has the
// lock, and calls again as often as is left.
func (p *Pair) goOn(t int, left []int) {
	p.Helper()
	if p.Lock.State(t) == api.Idle {
		if left[t] == 0 {
			return
		}
		left[t]--
	}
	p.GoesOn(t, t)
}

// HowManyContexts goes through all numbers of contexts, who pass one by one.
func HowManyContexts(t T, k Kind) {
	t.Helper()
	for n := 1; n <= api.MaxThreads; n++ {
		p := New(t, n, k, k.homes(n, n)...)
		for _, c := range []int{0, n / 2, n - 1} {
			p.Bring(c, api.Unlocking)
			p.Until(c, api.Released)
		}
	}
}

// EachCallInEachState does each call in each state.
func EachCallInEachState(t T, k Kind) {
	t.Helper()
	for _, state := range States(k.Probed) {
		for _, n := range []int{1, 3, 64} {
			for call := range 3 {
				p := New(t, n, k, k.homes(n, 0)...)
				p.Bring(n-1, state)
				switch call {
				case 0:
					p.Call(n-1, -1)
				case 1:
					p.Unlock(n - 1)
				case 2:
					p.Probe(n - 1)
				}
			}
		}
	}
}

// NoDeadlines calls for the lock with deadlines, which aren't taken: that is a
// wrong argument also where the context is busy.
func NoDeadlines(t T, k Kind) {
	t.Helper()
	for _, state := range States(k.Probed) {
		p := New(t, 2, k, 1, 1)
		p.Bring(1, state)
		for _, d := range Deadlines() {
			if e := p.Call(1, d); e != api.ErrArg {
				t.Fatalf("Lock(1, %d) in state %d = %d", d, state, e)
			}
		}
	}
}

// NoSuchContext does all calls for contexts that aren't there.
func NoSuchContext(t T, k Kind) {
	t.Helper()
	for _, n := range []int{1, 2, 63, 64} {
		for _, state := range States(k.Probed) {
			p := New(t, max(n, 3), k, k.homes(n, 0)...)
			p.Bring(n-1, state)
			for _, c := range NoContexts(n) {
				p.isNone(c)
			}
		}
	}
}

// isNone does all calls for a context that isn't there.
func (p *Pair) isNone(c int) {
	p.Helper()
	if got := p.Lock.State(c); got != api.Idle {
		p.Fatalf("State(%d) = %d", c, got)
	}
	p.more(c)
	for _, d := range append(Deadlines(), -1) {
		if e := p.Call(c, d); e != api.ErrArg {
			p.Fatalf("Lock(%d, %d) = %d", c, d, e)
		}
	}
	if u, q := p.Unlock(c), p.Probe(c); u != api.ErrArg || q != api.ErrArg {
		p.Fatalf("Unlock(%d) = %d, Probe(%d) = %d", c, u, c, q)
	}
	for _, as := range append(NoContexts(3), 0, 1, 2) {
		if did := p.Step(c, as, as); did != (api.Did{}) {
			p.Fatalf("Step(%d, %d) = %v", c, as, did)
		}
	}
}

// StepOfIdleAndHolding does steps of one who has nothing under way: they do
// nothing, whoever does them.
func StepOfIdleAndHolding(t T, k Kind) {
	t.Helper()
	for _, state := range []int{api.Idle, api.Holding} {
		p := New(t, 3, k, 1, 2)
		p.Bring(1, state)
		for as := range 3 {
			if did := p.Step(1, as, 7); did != (api.Did{}) {
				t.Fatalf("state %d: %v", state, did)
			}
		}
	}
}

// AnyTick does passages at any ticks, which change nothing.
func AnyTick(t T, k Kind) {
	t.Helper()
	for _, now := range []int{0, 1, -1, 64, 1 << 32, math.MinInt64, math.MaxInt64} {
		p := New(t, 3, k, 4, 4)
		for _, as := range []int{0, 2, 1} {
			p.Calls(0)
			for range 20 {
				p.Step(0, as, now)
			}
			p.Unlock(0)
			for range 20 {
				p.Step(0, as, now)
			}
			if got := p.Lock.State(0); got != api.Idle {
				t.Fatalf("at the tick %d: state %d", now, got)
			}
		}
	}
}

// WhoeverSteps does the same calls and steps of two locks, those of the one by
// any threads, those of the other one by the contexts' own: they come to the
// same.
func WhoeverSteps(t T, k Kind) {
	t.Helper()
	r := Numbers(133)
	threads := []func(t int) int{
		func(t int) int { return 0 },
		func(t int) int { return 63 },
		func(t int) int { return 63 - t },
		func(t int) int { return (t + 1) % 64 },
		func(t int) int { return t / 2 },
		func(t int) int { return r.Below(64) },
	}
	for _, n := range []int{1, 2, 3, 8, 64} {
		for _, as := range threads {
			p, own := New(t, 64, k, k.homes(n, 0)...), New(t, 64, k, k.homes(n, 0)...)
			for now := range 600 {
				p.Now, own.Now = now, now
				which, c, deadline := r.Below(12), r.Below(n), p.soon(&r)
				e, did := p.does(which, c, as(c), deadline)
				f, want := own.does(which, c, c, deadline)
				if e != f || did != want || p.Lock.State(c) != own.Lock.State(c) {
					t.Fatalf("%d contexts: error %d, want %d; %v, want %v", n, e, f, did, want)
				}
				if w, want := p.Port.Words(), own.Port.Words(); !slices.Equal(w, want) {
					t.Fatalf("words %v, want %v", w, want)
				}
			}
		}
	}
}

// Lies lays a lock of contexts with these homes behind so many words, and asks
// that its own words have these homes and values, that the next word lies
// behind them, and that all contexts are idle.
func Lies(t T, k Kind, before int, homes, own []int, values []uint32) Lock {
	t.Helper()
	p := plan.New(2)
	p.Row(before, 6, 77)
	l, e := k.Lay(p, homes)
	if e != api.OK || l.Len() != len(homes) {
		t.Fatalf("New with the homes %v: %d", homes, e)
	}
	if a := p.Word(5, 78); a != before+len(own) {
		t.Fatalf("a word behind has the address %d, want %d", a, before+len(own))
	}
	x, _ := p.Port()
	want := slices.Concat(slices.Repeat([]uint32{77}, before), values, []uint32{78})
	if w := x.Words(); !slices.Equal(w, want) {
		t.Fatalf("words %v, want %v", w, want)
	}
	for a, want := range slices.Concat(slices.Repeat([]int{6}, before), own, []int{5}) {
		if got := x.Home(a); got != want {
			t.Fatalf("%v: the home of the word at %d is %d, want %d", homes, a, got, want)
		}
	}
	for c := range homes {
		if got := l.State(c); got != api.Idle {
			t.Fatalf("State(%d) = %d at first", c, got)
		}
	}
	return l
}

// Refuses asks that a New refuses, and lays nothing. It tells whether there is
// no lock, and what is wrong.
func Refuses(t T, want api.Errno, lay func(p *plan.Plan) (bool, api.Errno)) {
	t.Helper()
	p := plan.New(3)
	p.Word(1, 4)
	none, e := lay(p)
	if !none || e != want || p.Len() != 1 {
		t.Fatalf("no lock: %t; error %d, want %d; %d words, want 1", none, e, want, p.Len())
	}
	if a := p.Word(2, 5); a != 1 {
		t.Fatalf("the word behind lies at %d, want 1", a)
	}
	x, e := p.Port()
	if e != api.OK || !slices.Equal(x.Words(), []uint32{4, 5}) || x.Home(0) != 1 || x.Home(1) != 2 {
		t.Fatalf("a port behind it: error %d, words %v", e, x.Words())
	}
}

// HomesStayTheAskers asks that the homes that are handed in aren't written
// into, and aren't kept.
func HomesStayTheAskers(t T, k Kind) {
	t.Helper()
	laid, by := plan.New(2), plan.New(2)
	homes := []int{3, 4, 5, 6}
	p := lay(t, laid, by, k, homes[:2])
	if !slices.Equal(homes, []int{3, 4, 5, 6}) {
		t.Fatalf("homes that were handed in are %v now", homes)
	}
	homes[0], homes[1] = 99, -1
	p.Use(ports(t, laid, by))
	p.Bring(1, api.Unlocking)
	p.Until(1, api.Released)
}

// total is how many accesses all threads of a port had.
func total(p *port.Port) int {
	sum := 0
	for t := range p.Threads() {
		sum += p.Accesses(t)
	}
	return sum
}

// OneAccessAStep asks that a step has one access at most, that it is of who
// steps, and that one of a context with nothing under way has none.
func OneAccessAStep(t T, k Kind, steps int) {
	t.Helper()
	r := Numbers(steps)
	for _, n := range []int{1, 2, 5, 64} {
		p := New(t, 8, k, k.homes(n, 0)...)
		for range steps {
			c, as, most := r.Below(n+2)-1, r.Below(8), 1
			if s := p.Lock.State(c); s == api.Idle || s == api.Holding {
				most = 0
			}
			all, own := total(p.Port), p.Port.Accesses(as)
			p.Now += r.Below(2)
			p.Lock.Step(c, as, p.Now)
			all, own = total(p.Port)-all, p.Port.Accesses(as)-own
			if all != own || all > most {
				t.Fatalf("%d accesses, %d of %d, want at most %d", all, own, as, most)
			}
			begins(p.Lock, r.Below(8), c, p.soon(&r))
		}
	}
}

// begins begins a call, or none.
func begins(l Lock, which, t, deadline int) {
	switch which {
	case 0, 1:
		l.Lock(t, deadline)
	case 2:
		l.Unlock(t)
	case 3:
		l.Probe(t)
	}
}

// NoAccessButAStep asks that nothing but a step has an access.
func NoAccessButAStep(t T, k Kind) {
	t.Helper()
	for _, state := range States(k.Probed) {
		p := New(t, 3, k, 2, 3, 4)
		if got := total(p.Port); got != 0 {
			t.Fatalf("%d accesses ahead of any step", got)
		}
		p.Bring(1, state)
		all, words := total(p.Port), p.Port.Words()
		p.Lock.Use(p.Port)
		for c := -2; c < 6; c++ {
			p.Lock.State(c)
			p.Lock.Lock(c, 3)
			p.Lock.Lock(c, -1)
			p.Lock.Unlock(c)
			p.Lock.Probe(c)
			p.Lock.Len()
			p.more(c)
		}
		if got := total(p.Port); got != all || !slices.Equal(p.Port.Words(), words) {
			t.Fatalf("state %d: %d accesses, were %d", state, got, all)
		}
	}
}
