package fifo_test

import (
	"math"
	"slices"
	"testing"

	"weighlock/fifo"
	"weighlock/locktest"
	"weighlock/trace"
)

func TestExampleP19_1(t *testing.T) {
	checks(t, 2, locktest.Read(t, "call 0, enq 0, call 1, enq 1, grant 1"), 4, false)
}

// situations are entries behind which the thread 1, of three, is in each state,
// whether somebody else is queued, holding or leaving or not; by which kinds of
// its entries fit then.
var situations = []struct {
	state  string
	fits   []int
	behind []string
}{
	{"idle", []int{trace.Call}, []string{
		"",
		"call 0",
		"call 0, enq 0",
		"call 0, enq 0, grant 0",
		"call 1, timeout 1",
		"call 1, refuse 1",
		"call 1, enq 1, timeout 1",
		"call 1, enq 1, grant 1, unlock 1, return 1",
		"call 1, enq 1, grant 1, unlock 1, call 0, enq 0, grant 0, return 1",
		"call 0, enq 0, grant 0, call 2, enq 2, call 1, enq 1, timeout 1",
		"call 0, enq 0, grant 0, call 1, enq 1, call 2, enq 2, timeout 1",
		"call 2, enq 2, call 1, call 0, enq 0, timeout 1",
		"call 2, enq 2, call 1, call 0, enq 0, refuse 1",
		"call 0, enq 0, grant 0, unlock 0, call 1, enq 1, grant 1, unlock 1, return 1",
	}},
	{"called", []int{trace.Enq, trace.Timeout, trace.Refuse}, []string{
		"call 1",
		"call 1, refuse 1, call 1",
		"call 0, enq 0, call 1",
		"call 0, enq 0, grant 0, call 1",
		"call 0, enq 0, grant 0, call 1, unlock 0",
		"call 1, enq 1, timeout 1, call 1",
		"call 1, enq 1, grant 1, unlock 1, return 1, call 1",
		"call 1, call 0, enq 0, call 2, enq 2",
	}},
	{"the first one of the queue", []int{trace.Grant, trace.Timeout}, []string{
		"call 1, enq 1",
		"call 1, enq 1, call 0, enq 0",
		"call 0, call 1, enq 1, enq 0",
		"call 0, enq 0, grant 0, unlock 0, call 1, enq 1",
		"call 0, enq 0, grant 0, call 1, enq 1, unlock 0",
		"call 0, enq 0, grant 0, call 1, enq 1, unlock 0, return 0, call 0, enq 0",
		"call 0, enq 0, call 1, enq 1, timeout 0",
		"call 0, enq 0, call 1, enq 1, timeout 0, call 0, enq 0",
		"call 0, enq 0, grant 0, call 2, enq 2, call 1, enq 1, unlock 0, timeout 2",
	}},
	{"queued, with somebody ahead", []int{trace.Timeout}, []string{
		"call 0, enq 0, call 1, enq 1",
		"call 1, call 0, enq 0, enq 1",
		"call 0, enq 0, call 1, enq 1, call 2, enq 2",
		"call 0, enq 0, grant 0, call 1, enq 1",
		"call 0, enq 0, grant 0, call 1, enq 1, call 2, enq 2",
		"call 0, enq 0, grant 0, call 2, enq 2, call 1, enq 1",
		"call 0, enq 0, grant 0, call 2, enq 2, call 1, enq 1, unlock 0",
		"call 0, enq 0, grant 0, call 2, enq 2, call 1, enq 1, timeout 2",
		"call 1, enq 1, call 0, enq 0, timeout 1, call 1, enq 1",
		"call 0, enq 0, call 2, enq 2, call 1, enq 1, grant 0, unlock 0, grant 2",
	}},
	{"holding", []int{trace.Unlock}, []string{
		"call 1, enq 1, grant 1",
		"call 1, enq 1, grant 1, call 0, enq 0, call 2",
		"call 1, enq 1, call 0, enq 0, grant 1",
		"call 0, enq 0, grant 0, call 1, enq 1, unlock 0, grant 1",
		"call 0, enq 0, grant 0, call 1, enq 1, unlock 0, grant 1, return 0",
	}},
	{"leaving", []int{trace.Return}, []string{
		"call 1, enq 1, grant 1, unlock 1",
		"call 1, enq 1, grant 1, call 0, enq 0, unlock 1",
		"call 1, enq 1, grant 1, unlock 1, call 0, enq 0, grant 0",
		"call 1, enq 1, grant 1, unlock 1, call 0, enq 0, grant 0, unlock 0",
	}},
}

// inEachSituation does this with an automaton in each, and the kinds of the
// entries of the thread 1 that fit then.
func inEachSituation(t *testing.T, do func(p *pair, fits []int)) {
	t.Helper()
	for _, s := range situations {
		for _, words := range s.behind {
			do(behind(t, 3, locktest.Read(t, words)), s.fits)
		}
	}
}

// Each kind of entry fits in its states alone.
func TestEachKindInEachStateP19_1(t *testing.T) {
	for _, s := range situations {
		for _, words := range s.behind {
			l := locktest.Read(t, words)
			for _, e := range locktest.Each(1) {
				want := slices.Contains(s.fits, e.Kind)
				if got := behind(t, 3, l).takes(e); got != want {
					t.Fatalf("%q (%s): %v fits: %t, want %t", words, s.state, e, got, want)
				}
				n := len(l)
				if want {
					n++
				}
				checks(t, 3, append(slices.Clone(l), e), n, want)
			}
		}
	}
}

// One thread goes all ways that there are, again and again.
func TestWaysOfOneP19_1(t *testing.T) {
	for _, one := range []int{0, 1, 63} {
		p := starts(t, 64)
		for range 3 {
			for _, kind := range []int{trace.Call, trace.Refuse, trace.Call, trace.Timeout, trace.Call} {
				p.fits(locktest.Of(kind, one))
				p.tells(-1)
			}
			p.fits(locktest.Of(trace.Enq, one))
			p.tells(-1, one)
			p.fits(locktest.Of(trace.Timeout, one))
			p.tells(-1)
			p.fits(locktest.Of(trace.Call, one))
			p.fits(locktest.Of(trace.Enq, one))
			p.fits(locktest.Of(trace.Grant, one))
			p.tells(one)
			p.fits(locktest.Of(trace.Unlock, one))
			p.tells(-1)
			p.fits(locktest.Of(trace.Return, one))
			p.tells(-1)
		}
	}
}

// goes takes entries, and asks the queue and who is holding (-1: nobody) behind
// each.
func (p *pair) goes(steps ...step) {
	p.Helper()
	for _, s := range steps {
		for _, e := range locktest.Read(p.T, s.words) {
			p.fits(e)
		}
		p.tells(s.holder, s.queue...)
	}
}

// step is entries, and who is holding and who is queued behind them.
type step struct {
	words  string
	holder int
	queue  []int
}

func TestThreeP19_1(t *testing.T) {
	starts(t, 3).goes(
		step{"call 2", -1, nil},
		step{"call 0", -1, nil},
		step{"enq 0", -1, []int{0}},
		step{"enq 2", -1, []int{0, 2}},
		step{"call 1", -1, []int{0, 2}},
		step{"grant 0", 0, []int{2}},
		step{"enq 1", 0, []int{2, 1}},
		step{"unlock 0", -1, []int{2, 1}},
		step{"grant 2", 2, []int{1}},
		step{"return 0", 2, []int{1}},
		step{"call 0", 2, []int{1}},
		step{"enq 0", 2, []int{1, 0}},
		step{"unlock 2", -1, []int{1, 0}},
		step{"return 2", -1, []int{1, 0}},
		step{"grant 1", 1, []int{0}},
		step{"unlock 1", -1, []int{0}},
		step{"grant 0", 0, nil},
		step{"return 1", 0, nil},
		step{"unlock 0", -1, nil},
		step{"return 0", -1, nil},
	)
}

// Who is called, and gives up, or is refused, was never in the queue.
func TestTimeoutOfOneThatIsCalledP19_1(t *testing.T) {
	for _, way := range []string{"timeout 3", "refuse 3"} {
		starts(t, 4).goes(
			step{"call 3", -1, nil},
			step{"call 0, enq 0, call 1, enq 1, call 2, enq 2", -1, []int{0, 1, 2}},
			step{way, -1, []int{0, 1, 2}},
			step{"grant 0", 0, []int{1, 2}},
			step{"call 3", 0, []int{1, 2}},
			step{way, 0, []int{1, 2}},
			step{"call 3, enq 3", 0, []int{1, 2, 3}},
		)
	}
}

// Who gives up leaves the queue, wherever it stands; the others keep their order.
func TestTimeoutInTheQueueP19_1(t *testing.T) {
	const all = "call 4, enq 4, grant 4, call 0, enq 0, call 1, enq 1, call 2, enq 2, call 3, enq 3"
	for _, way := range []step{
		{"timeout 0", 4, []int{1, 2, 3}},
		{"timeout 1", 4, []int{0, 2, 3}},
		{"timeout 2", 4, []int{0, 1, 3}},
		{"timeout 3", 4, []int{0, 1, 2}},
		{"timeout 1, timeout 2", 4, []int{0, 3}},
		{"timeout 2, timeout 1", 4, []int{0, 3}},
		{"timeout 0, timeout 1", 4, []int{2, 3}},
		{"timeout 3, timeout 2, timeout 0", 4, []int{1}},
		{"timeout 1, timeout 0, timeout 3, timeout 2", 4, nil},
		{"timeout 1, call 1, enq 1", 4, []int{0, 2, 3, 1}},
		{"timeout 0, call 0", 4, []int{1, 2, 3}},
	} {
		p := starts(t, 5)
		p.goes(step{all, 4, []int{0, 1, 2, 3}}, way)
		p.fits(locktest.Of(trace.Unlock, 4))
		for i, next := range way.queue {
			for _, later := range way.queue[i+1:] {
				p.fitsNot(locktest.Of(trace.Grant, later))
			}
			p.fits(locktest.Of(trace.Grant, next))
			p.tells(next, way.queue[i+1:]...)
			p.fits(locktest.Of(trace.Unlock, next))
		}
	}
}

// It is the first one's turn alone, as soon as nobody is holding.
func TestWhoseGrantFitsP19_1(t *testing.T) {
	p := behind(t, 4, locktest.Read(t, "call 2, enq 2, call 0, enq 0, call 3, enq 3, call 1"))
	for i, next := range []int{2, 0, 3} {
		queue := []int{2, 0, 3}[i:]
		for other := range 4 {
			if other != next {
				p.fitsNot(locktest.Of(trace.Grant, other))
			}
		}
		p.tells(-1, queue...)
		p.fits(locktest.Of(trace.Grant, next))
		for other := range 4 {
			p.fitsNot(locktest.Of(trace.Grant, other))
		}
		p.tells(next, queue[1:]...)
		p.fits(locktest.Of(trace.Unlock, next))
	}
	p.fitsNot(locktest.Of(trace.Grant, 1))
	p.tells(-1)
}

// An entry that doesn't fit is as if it weren't there.
func TestNothingIsDoneP19_1(t *testing.T) {
	for _, s := range situations {
		for _, words := range s.behind {
			l := locktest.Read(t, words)
			for _, wrong := range locktest.Each(-1, 0, 1, 2, 3) {
				if behind(t, 3, l).model.fits(wrong) {
					continue
				}
				for _, e := range locktest.Each(0, 1, 2) {
					p := behind(t, 3, l)
					p.fitsNot(wrong, wrong)
					p.takes(e)
				}
			}
		}
	}
}

// Each trace of two threads, and of three, up to so many entries: behind each of
// them all entries, of which those that fit go on.
func TestEachTraceP19_1(t *testing.T) {
	for threads, most := range map[int]int{1: 9, 2: 7, 3: 5} {
		var all []trace.Entry
		for one := -1; one <= threads; one++ {
			all = append(all, locktest.Each(one)...)
		}
		traces := 0
		var from func(l []trace.Entry)
		from = func(l []trace.Entry) {
			traces++
			for _, e := range all {
				if behind(t, threads, l).takes(e) && len(l) < most {
					from(append(slices.Clone(l), e))
				}
			}
		}
		from(nil)
		if traces < 100 {
			t.Errorf("%d threads: %d traces", threads, traces)
		}
	}
}

// Any entries, of which many don't fit, of few threads and of many.
func TestAnyEntriesP19_1(t *testing.T) {
	r := locktest.Numbers(19)
	for _, threads := range []int{-1, 0, 1, 2, 3, 4, 7, 63, 64, 65, 1000} {
		for range 20 {
			p := starts(t, threads)
			for range 300 {
				p.takes(p.model.anyEntry(&r))
			}
		}
	}
}

// Where many are queued, they are in the order of their Enqs.
func TestLongQueueP19_1(t *testing.T) {
	for _, threads := range []int{64, 65, 100, math.MaxInt64} {
		p := starts(t, threads)
		var queue []int
		for i := range 64 {
			one := 37 * i % 64
			p.fits(locktest.Of(trace.Call, one))
			p.fits(locktest.Of(trace.Enq, one))
			queue = append(queue, one)
			p.tells(-1, queue...)
		}
		for i, next := range queue {
			if i%5 == 2 {
				p.fits(locktest.Of(trace.Timeout, next))
				p.tells(-1, queue[i+1:]...)
				continue
			}
			p.fits(locktest.Of(trace.Grant, next))
			p.tells(next, queue[i+1:]...)
			p.fits(locktest.Of(trace.Unlock, next))
		}
	}
}

// There are as many threads as are asked for, at least none, and at most 64.
func TestHowManyThreadsP19_1(t *testing.T) {
	counts := map[int]int{
		-1: 0, -2: 0, -63: 0, -64: 0, -1 << 32: 0, 5 - 1<<32: 0, math.MinInt64: 0, math.MinInt64 + 3: 0, math.MinInt32: 0,
		65: 64, 66: 64, 128: 64, 255: 64, 256: 64, 257: 64, 1 << 32: 64, 1<<32 + 1: 64, 1<<16 + 2: 64, math.MaxInt32: 64, math.MaxInt64: 64,
	}
	for n := range 65 {
		counts[n] = n
	}
	for threads, n := range counts {
		p := starts(t, threads)
		p.tells(-1)
		for one := -2; one < 70; one++ {
			call := []trace.Entry{locktest.Of(trace.Call, one)}
			if 0 <= one && one < n {
				p.fits(call[0])
				checks(t, threads, call, 1, true)
			} else {
				p.fitsNot(locktest.Each(one)...)
				checks(t, threads, call, 0, false)
			}
		}
	}
}

// Of a thread that there isn't no entry fits, whatever the others do.
func TestNoSuchThreadP19_1(t *testing.T) {
	inEachSituation(t, func(p *pair, fits []int) {
		for _, none := range locktest.NoContexts(3) {
			p.fitsNot(locktest.Each(none)...)
		}
	})
	for _, threads := range []int{-1, 0, 1, 2, 63, 64} {
		p := starts(t, threads)
		for one := range threads {
			p.fits(locktest.Of(trace.Call, one))
			p.fits(locktest.Of(trace.Enq, one))
		}
		for _, none := range locktest.NoContexts(max(threads, 0)) {
			p.fitsNot(locktest.Each(none)...)
		}
	}
}

// An entry with Lead fits nothing, of whatever kind.
func TestLeadP19_1(t *testing.T) {
	inEachSituation(t, func(p *pair, fits []int) {
		for _, e := range locktest.Each(-1, 0, 1, 2, 3) {
			e.Lead = true
			p.fitsNot(e)
		}
		for _, kind := range noKinds() {
			p.fitsNot(trace.Entry{Kind: kind, Thread: 1, Lead: true})
		}
		p.fits(locktest.Of(fits[0], 1))
	})
}

// An entry of another kind fits nothing, be it Arrive or no kind at all.
func TestOtherKindsP19_1(t *testing.T) {
	inEachSituation(t, func(p *pair, fits []int) {
		for _, kind := range noKinds() {
			p.fitsNot(locktest.Of(kind, 0), locktest.Of(kind, 1), locktest.Of(kind, 2), locktest.Of(kind, 3))
		}
		p.fits(locktest.Of(fits[0], 1))
	})
}

// Ticks don't matter, whatever they are, and in whatever order.
func TestTicksP19_1(t *testing.T) {
	r := locktest.Numbers(191)
	for range 200 {
		m := newModel(3)
		var l []trace.Entry
		for range 12 {
			l = append(l, m.anyRight(&r))
			m.take(l[len(l)-1])
		}
		l = append(l, m.anyEntry(&r))
		n, all := fifo.Check(3, l)
		for _, first := range locktest.Ticks() {
			for _, by := range []int{0, 1, -1, 1 << 40, math.MinInt64} {
				for i := range l {
					l[i].Now = first + by*i
				}
				checks(t, 3, l, n, all)
			}
		}
	}
}

// Check tells how many there are ahead of the first one that doesn't fit: what
// stands behind that one doesn't matter, even if it fits.
func TestCheckP19_1(t *testing.T) {
	r := locktest.Numbers(192)
	for range 1000 {
		threads := 1 + r.Below(5)
		m := newModel(threads)
		n := r.Below(40)
		l := make([]trace.Entry, 0, 64)
		for range n {
			l = append(l, m.anyRight(&r))
			m.take(l[len(l)-1])
		}
		isTrace(t, threads, l)
		wrong := m.anyEntry(&r)
		for m.fits(wrong) {
			wrong = m.anyEntry(&r)
		}
		l = append(l, wrong)
		checks(t, threads, l, n, false)
		for range 9 {
			l = append(l, m.anyRight(&r))
			m.take(l[len(l)-1])
			checks(t, threads, l, n, false)
		}
	}
}

// The first entry that doesn't fit may stand anywhere, also more than once.
func TestCheckOfWrongOnesAmidP19_1(t *testing.T) {
	good := locktest.Read(t, "call 0, enq 0, call 1, grant 0, enq 1, call 2, enq 2, unlock 0, timeout 1, grant 2, return 0, call 0, refuse 0, call 0, timeout 0, unlock 2, return 2")
	isTrace(t, 3, good)
	isTrace(t, 64, good)
	for at := range len(good) + 1 {
		for _, wrong := range []trace.Entry{{}, locktest.Of(trace.Arrive, 0), locktest.Of(9, 0), locktest.Of(trace.Call, 3), locktest.Of(trace.Call, -1), {Kind: trace.Call, Lead: true}} {
			checks(t, 3, slices.Insert(slices.Clone(good), at, wrong), at, false)
			checks(t, 3, slices.Insert(slices.Clone(good), at, wrong, wrong), at, false)
		}
	}
	checks(t, 2, good, 5, false)
	checks(t, 1, good, 2, false)
	checks(t, 0, good, 0, false)
}

func TestNoEntriesP19_1(t *testing.T) {
	for _, threads := range []int{math.MinInt64, -64, -1, 0, 1, 2, 63, 64, 65, math.MaxInt64} {
		checks(t, threads, nil, 0, true)
		checks(t, threads, []trace.Entry{}, 0, true)
	}
}

// No number of entries is too many.
func TestManyEntriesP19_1(t *testing.T) {
	var l []trace.Entry
	for range 100000 {
		for _, kind := range []int{trace.Call, trace.Enq, trace.Grant, trace.Unlock, trace.Return} {
			l = append(l, locktest.Of(kind, 1))
		}
	}
	if n, ok := fifo.Check(2, l); n != len(l) || !ok {
		t.Errorf("Check of %d entries = %d, %t", len(l), n, ok)
	}
	if n, ok := fifo.Check(2, append(l, locktest.Of(trace.Return, 1))); n != len(l) || ok {
		t.Errorf("Check of %d entries, and a wrong one = %d, %t", len(l), n, ok)
	}
}

// A queue that was told is the asker's own: who changes it changes nothing, and
// it stays what it was.
func TestToldIsTheAskersP19_1(t *testing.T) {
	p := behind(t, 5, locktest.Read(t, "call 4, enq 4, call 0, enq 0, call 2, enq 2, call 1"))
	told := p.lock.Queue()
	p.fits(locktest.Of(trace.Timeout, 0))
	p.fits(locktest.Of(trace.Grant, 4))
	p.fits(locktest.Of(trace.Enq, 1))
	if !slices.Equal(told, []int{4, 0, 2}) {
		t.Fatalf("what was told is %v now", told)
	}
	told = p.lock.Queue()
	_ = append(told, 3)
	for i := range told {
		told[i] = 3
	}
	p.tells(4, 2, 1)
	told = append(p.lock.Queue(), 77)
	_ = append(told[:1], 88)
	p.fits(locktest.Of(trace.Call, 3))
	p.fits(locktest.Of(trace.Enq, 3))
	if !slices.Equal(told, []int{2, 88, 77}) {
		t.Fatalf("what was told is %v now", told)
	}
	p.fits(locktest.Of(trace.Unlock, 4))
	p.fits(locktest.Of(trace.Grant, 2))
	p.tells(2, 1, 3)
	if got := starts(t, 2).lock.Queue(); len(got) != 0 {
		t.Fatalf("the queue is %v at first", got)
	}
}

// Two automata are two.
func TestTwoP19_1(t *testing.T) {
	r := locktest.Numbers(193)
	a, b := starts(t, 3), starts(t, 5)
	for range 2000 {
		p := a
		if r.Below(2) == 0 {
			p = b
		}
		p.takes(p.model.anyEntry(&r))
		a.holds()
		b.holds()
	}
}

// orderly tells of entries alone whether at most one is holding at a time, and
// Grants come in the order of their Enqs, but for those that time out.
func orderly(l []trace.Entry) bool {
	holding := map[int]bool{}
	var waiting []int // who has an Enq, and neither a Grant nor a Timeout behind it
	for _, e := range l {
		switch e.Kind {
		case trace.Enq:
			waiting = append(waiting, e.Thread)
		case trace.Timeout:
			waiting = slices.DeleteFunc(waiting, func(t int) bool { return t == e.Thread })
		case trace.Grant:
			if len(waiting) == 0 || waiting[0] != e.Thread {
				return false
			}
			waiting = waiting[1:]
			holding[e.Thread] = true
		case trace.Unlock:
			delete(holding, e.Thread)
		}
		if len(holding) > 1 {
			return false
		}
	}
	return true
}

// Whatever entries come, those that fit are orderly; among them are many Grants.
func TestWhatFitsIsOrderlyP19_2(t *testing.T) {
	r := locktest.Numbers(194)
	for _, threads := range []int{1, 2, 3, 5, 64} {
		x := fifo.New(threads)
		var l []trace.Entry
		for range 20000 * min(threads, 8) {
			e := locktest.Of(1+r.Below(8), r.Below(threads))
			if x.Take(e) {
				l = append(l, e)
			}
		}
		if got := trace.Count(l, trace.Grant); !orderly(l) || got < 100 {
			t.Errorf("%d threads: of %d entries that fit %d are Grants; orderly: %t", threads, len(l), got, orderly(l))
		}
		if n, all := fifo.Check(threads, l); n != len(l) || !all {
			t.Errorf("Check of the %d that fit = %d, %t", len(l), n, all)
		}
	}
}

// What isn't orderly is no trace, however near it is to one.
func TestWhatIsNotOrderlyIsNoTraceP19_2(t *testing.T) {
	r := locktest.Numbers(195)
	for _, threads := range []int{2, 3, 6} {
		orders, others := 0, 0
		for range 4000 {
			l := anyTrace(&r, threads, 30)
			if !orderly(l) {
				t.Fatalf("%v isn't orderly", l)
			}
			l = locktest.Changed(&r, l)
			n, all := fifo.Check(threads, l)
			if all != (n == len(l)) || !orderly(l[:n]) {
				t.Fatalf("Check(%d, %v) = %d, %t; orderly: %t", threads, l, n, all, orderly(l[:n]))
			}
			if orderly(l) {
				orders++
			} else {
				others++
			}
		}
		if orders < 100 || others < 100 {
			t.Errorf("%d were orderly, %d weren't", orders, others)
		}
	}
}

// Two Grants that are exchanged are none of a trace.
func TestExchangedGrantsP19_2(t *testing.T) {
	r := locktest.Numbers(196)
	exchanged := 0
	for range 2000 {
		l := anyTrace(&r, 4, 40)
		var grants []int
		for i, e := range l {
			if e.Kind == trace.Grant {
				grants = append(grants, i)
			}
		}
		for i := range max(len(grants)-1, 0) {
			a, b := grants[i], grants[i+1]
			if l[a].Thread == l[b].Thread {
				continue
			}
			other := slices.Clone(l)
			other[a], other[b] = other[b], other[a]
			checks(t, 4, other, a, false)
			exchanged++
		}
	}
	if exchanged < 100 {
		t.Errorf("%d were exchanged", exchanged)
	}
}
