package build_test

import (
	"slices"
	"strings"
	"sync"
	"testing"

	"weighlock/abort"
	"weighlock/api"
	"weighlock/build"
	"weighlock/clh"
	"weighlock/cohort"
	"weighlock/flat"
	"weighlock/hier"
	"weighlock/locktest"
	"weighlock/mcs"
	"weighlock/plan"
	"weighlock/port"
	"weighlock/slots"
)

// What steps do. leads: it is granted the lock, and its node's time begins.
var (
	nothing  = api.Did{}
	enq      = api.Did{Enq: true}
	arrive   = api.Did{Arrive: true}
	granted  = api.Did{Event: api.Granted}
	leads    = api.Did{Event: api.Granted, Lead: true}
	released = api.Did{Event: api.Released}
)

// said is what the chapters say of a kind.
type said struct {
	kind                int
	word                string
	fifo, timed, probed bool
	lay                 func(p *plan.Plan, c api.Config) (cohort.Locker, api.Errno)
}

// all are the kinds, from 1 on.
var all = []said{
	{1, "ticket", true, false, true, func(p *plan.Plan, c api.Config) (cohort.Locker, api.Errno) {
		return flat.New(p, c.Homes, c.Start)
	}},
	{2, "slots", true, false, false, func(p *plan.Plan, c api.Config) (cohort.Locker, api.Errno) {
		return slots.New(p, c.Homes, c.Slots, c.Start)
	}},
	{3, "clh", true, false, true, func(p *plan.Plan, c api.Config) (cohort.Locker, api.Errno) {
		return clh.New(p, c.Homes)
	}},
	{4, "mcs", true, false, true, func(p *plan.Plan, c api.Config) (cohort.Locker, api.Errno) {
		return mcs.New(p, c.Homes)
	}},
	{5, "abort", true, true, false, func(p *plan.Plan, c api.Config) (cohort.Locker, api.Errno) {
		return abort.New(p, c.Homes, c.Pool)
	}},
	{6, "hier", false, false, false, func(p *plan.Plan, c api.Config) (cohort.Locker, api.Errno) {
		return hier.New(p, c.Homes)
	}},
	{7, "cohort", false, false, false, func(p *plan.Plan, c api.Config) (cohort.Locker, api.Errno) {
		return cohort.New(p, c.Homes, c.Global, c.Local, c.Budget)
	}},
}

// of is what is said of a configuration's kind.
func of(c api.Config) said { return all[c.Kind-1] }

// below is a lock of its kind's own package. As a model of one that was built it
// is called, ahead of each step, for what is under way: that it is so already is
// refused, and changes nothing.
type below struct {
	cohort.Locker
	now, deadline int
}

func (b *below) At(now, deadline int) { b.now, b.deadline = now, deadline }

func (b *below) Step(state, t, as int) api.Did {
	switch state {
	case api.Locking:
		b.Lock(t, b.deadline)
	case api.Unlocking:
		b.Unlock(t)
	case api.Probing:
		b.Probe(t)
	}
	return b.Locker.Step(t, as, b.now)
}

// kind is the kind of a configuration's locks.
func kind(c api.Config) locktest.Kind {
	s := of(c)
	return locktest.Kind{
		Probed: s.probed,
		Timed:  s.timed,
		Model: func(p *plan.Plan, homes []int) locktest.Model {
			c.Homes = homes
			l, _ := s.lay(p, c)
			return &below{Locker: l}
		},
	}
}

// builds builds a lock, and holds it against one of its kind's own package.
func builds(t *testing.T, c api.Config) *locktest.Pair {
	t.Helper()
	l, x, e := build.New(c)
	return ready(t, c, l, x, e)
}

// ready holds what was answered of a right configuration against a lock of its
// kind's own package.
func ready(t *testing.T, c api.Config, l cohort.Locker, x *port.Port, e api.Errno) *locktest.Pair {
	t.Helper()
	if e != api.OK || l == nil || x == nil {
		t.Fatalf("%v: error %d; no lock: %t, no port: %t", c, e, l == nil, x == nil)
	}
	return locktest.Ready(t, kind(c), l, x, c.Homes)
}

func TestExampleP17_1(t *testing.T) {
	refuses(t, api.Config{Kind: 3}, api.ErrArg)
	refuses(t, api.Config{Kind: 8}, api.ErrConfig)
}

func TestKindsAndWordsP17_1(t *testing.T) {
	for i, s := range all {
		if s.kind != i+1 {
			t.Fatalf("the kind %d is told as %d", i+1, s.kind)
		}
		if got := build.Name(s.kind); got != s.word {
			t.Errorf("Name(%d) = %q, want %q", s.kind, got, s.word)
		}
		if got, ok := build.Kind(s.word); got != s.kind || !ok {
			t.Errorf("Kind(%q) = %d, %t, want %d", s.word, got, ok, s.kind)
		}
		if got := build.Fifo(s.kind); got != s.fifo {
			t.Errorf("Fifo(%d) = %t", s.kind, got)
		}
		if got := build.Timed(s.kind); got != s.timed {
			t.Errorf("Timed(%d) = %t", s.kind, got)
		}
	}
}

func TestNoSuchKindP17_1(t *testing.T) {
	for _, kind := range locktest.NoKinds() {
		if name, fifo, timed := build.Name(kind), build.Fifo(kind), build.Timed(kind); name != "" || fifo || timed {
			t.Errorf("%d: Name %q, Fifo %t, Timed %t", kind, name, fifo, timed)
		}
	}
}

// noWords are words of no kind.
func noWords() []string {
	words := []string{"", " ", "0", "1", "fifo", "flat", "queue", "ticketslots", "ticket,slots", "clhmcs", "\x00", "mc\xff"}
	for _, s := range all {
		w := s.word
		words = append(words, strings.ToUpper(w), strings.ToUpper(w[:1])+w[1:], w[:len(w)-1], w[1:], w+"s", "x"+w, w+w)
		words = append(words, " "+w, w+" ", w+"\n", "\t"+w, w+"\x00", w[:2]+" "+w[2:], w[:len(w)-1]+"é")
	}
	return words
}

func TestNoSuchWordP17_1(t *testing.T) {
	for _, word := range noWords() {
		if kind, ok := build.Kind(word); kind != 0 || ok {
			t.Errorf("Kind(%q) = %d, %t", word, kind, ok)
		}
	}
}

// words are so many, all 0 but these.
func words(n int, others map[int]uint32) []uint32 {
	ws := make([]uint32, n)
	for w, v := range others {
		ws[w] = v
	}
	return ws
}

// way is, as its chapter says, of a lock of two contexts its words at first, the
// steps of a Lock of the context 1, who finds nobody, and of its Unlock, and the
// words behind each.
type way struct {
	kind   int
	first  []uint32
	lock   []api.Did
	held   []uint32
	unlock []api.Did
	unheld []uint32
}

// ways are those of the plain configurations of contexts on the nodes 1 and 2.
func ways() []way {
	enters := api.Did{Event: api.Granted, Enq: true}
	return []way{
		{api.Ticket, []uint32{9, 9}, []api.Did{enq, granted}, []uint32{10, 9},
			[]api.Did{released}, []uint32{10, 10}},
		{api.Slots, []uint32{1<<32 - 2, 1, 0}, []api.Did{enq, nothing, granted}, []uint32{1<<32 - 1, 0, 0},
			[]api.Did{released}, []uint32{1<<32 - 1, 0, 1}},
		{api.Clh, words(4, nil), []api.Did{nothing, enq, granted}, []uint32{2, 0, 0, 1},
			[]api.Did{released}, []uint32{2, 0, 0, 0}},
		{api.Mcs, words(5, nil), []api.Did{nothing, enters}, []uint32{2, 0, 0, 0, 0},
			[]api.Did{nothing, released}, words(5, nil)},
		{api.Abort, words(19, nil), []api.Did{nothing, nothing, nothing, nothing, enters}, words(19, map[int]uint32{0: 4, 12: 1}),
			[]api.Did{nothing, nothing, released}, words(19, nil)},
		{api.Hier, words(12, map[int]uint32{0: 3, 11: 1<<32 - 4}),
			[]api.Did{nothing, enq, nothing, arrive, nothing, nothing, leads}, words(12, map[int]uint32{0: 2, 3: 2, 10: 11, 11: 1<<32 - 4}),
			[]api.Did{nothing, released}, words(12, map[int]uint32{0: 2, 3: 2, 10: 9, 11: 1<<32 - 4})},
		{api.Cohort, words(31, nil),
			[]api.Did{nothing, enq, nothing, nothing, nothing, arrive, leads}, words(31, map[int]uint32{2: 1, 8: 3, 28: 1, 30: 1}),
			[]api.Did{nothing, nothing, nothing, nothing, nothing, released}, words(31, map[int]uint32{28: 1})},
	}
}

// The whole way of one alone with a lock of each kind.
func TestWayOfOneAloneP17_1(t *testing.T) {
	for i, c := range locktest.Plain([]int{1, 2}) {
		p, w := builds(t, c), ways()[i]
		if c.Kind != w.kind || p.Port.Len() != len(w.first) || p.Port.Threads() != 2 || p.Lock.Len() != 2 {
			t.Fatalf("kind %d: %d words, %d threads, %d contexts", c.Kind, p.Port.Len(), p.Port.Threads(), p.Lock.Len())
		}
		p.Words(w.first...)
		p.Calls(1)
		p.Does(1, w.lock...)
		p.Words(w.held...)
		p.Unlock(1)
		p.Does(1, w.unlock...)
		p.Words(w.unheld...)
		if a, b := p.Port.Accesses(1), p.Port.Accesses(0); a != len(w.lock)+len(w.unlock) || b != 0 {
			t.Errorf("kind %d: %d accesses, and %d of the other thread", c.Kind, a, b)
		}
	}
}

// Each lock is at first what its kind's own package makes it, laid at 0 as the
// only one, with a thread for each context: so say the words, their homes, and
// all counts.
func TestAtFirstP17_1(t *testing.T) {
	for _, homes := range locktest.Crowds() {
		for _, c := range locktest.Many(homes) {
			p := builds(t, c)
			if got := p.Port.Threads(); got != len(homes) {
				t.Errorf("kind %d of %d contexts: %d threads", c.Kind, len(homes), got)
			}
		}
	}
	for n := 1; n <= api.MaxThreads; n++ {
		for _, c := range locktest.Plain(locktest.Homes(n, n)) {
			builds(t, c)
		}
	}
}

func TestAnyCallsP17_1(t *testing.T) {
	r := locktest.Numbers(17)
	for _, homes := range locktest.Crowds() {
		for _, c := range locktest.Many(homes) {
			p := builds(t, c)
			for range 150 {
				p.Any(&r)
			}
		}
	}
}

// Each context's calls follow each other, by the threads of any.
func TestCallsWithoutRestP17_1(t *testing.T) {
	r := locktest.Numbers(171)
	for _, homes := range locktest.Crowds() {
		n := len(homes)
		for _, c := range locktest.Plain(homes) {
			p := builds(t, c)
			for range 1500 {
				p.GoesOn(r.Below(n), r.Below(n))
			}
		}
	}
}

// What a kind doesn't look at may be anything: it changes nothing.
func TestWhatAKindDoesNotLookAtP17_1(t *testing.T) {
	r := locktest.Numbers(172)
	for _, v := range append(locktest.NoKinds(), 1, 2, 3, 4, 5, 6, 7, 1000, 1001) {
		for _, c := range locktest.Many([]int{4, 0, 4}) {
			l, x, e := build.New(locktest.Besides(c, v))
			p := ready(t, c, l, x, e)
			for range 20 {
				p.Any(&r)
			}
		}
	}
}

// What a configuration says is looked at by the kinds that look at it.
func TestWhatAKindLooksAtP17_1(t *testing.T) {
	homes := []int{5, 2}
	for _, start := range locktest.Starts() {
		builds(t, api.Config{Kind: api.Ticket, Homes: homes, Start: start}).Words(start, start)
		builds(t, api.Config{Kind: api.Slots, Homes: homes, Start: start, Slots: 64}).Words(append([]uint32{start}, words(64, map[int]uint32{int(start % 64): 1})...)...)
	}
	for pool := 1; pool <= api.MaxPool; pool++ {
		if got, want := builds(t, api.Config{Kind: api.Abort, Homes: homes, Pool: pool}).Port.Len(), 1+6*pool; got != want {
			t.Errorf("Pool %d: %d words, want %d", pool, got, want)
		}
	}
	for i, want := range []int{14, 16, 16, 29, 31, 31} {
		global, local := []int{api.Ticket, api.Mcs}[i/3], []int{api.Ticket, api.Clh, api.Mcs}[i%3]
		if got := builds(t, api.Config{Kind: api.Cohort, Homes: homes, Global: global, Local: local, Budget: 1}).Port.Len(); got != want {
			t.Errorf("%d over %d: %d words, want %d", global, local, got, want)
		}
	}
}

// apart does any calls and steps of two locks: what is done to the one changes
// nothing of the other one.
func apart(r *locktest.Numbers, two ...*locktest.Pair) {
	for range 600 {
		two[r.Below(2)].Any(r)
		two[0].Holds()
		two[1].Holds()
	}
}

// Two locks of one configuration are two.
func TestTwoLocksP17_1(t *testing.T) {
	r := locktest.Numbers(173)
	for _, c := range locktest.Plain([]int{3, 3, 6}) {
		apart(&r, builds(t, c), builds(t, c))
	}
}

// The homes that are handed in aren't written into, and aren't kept.
func TestHomesStayTheAskersP17_1(t *testing.T) {
	for i := range all {
		homes := []int{2, 7, 1, 5, 0, 3}
		c := locktest.Plain(homes[1:4])[i]
		p := builds(t, c)
		m := build.Later(c)
		if !slices.Equal(homes, []int{2, 7, 1, 5, 0, 3}) {
			t.Fatalf("kind %d: homes that were handed in are %v now", c.Kind, homes)
		}
		for c := range homes {
			homes[c] = -1
		}
		p.Bring(2, api.Unlocking)
		p.Until(2, api.Released)
		m.Lock()
		if !slices.Equal(homes, []int{-1, -1, -1, -1, -1, -1}) {
			t.Fatalf("kind %d: homes that were handed in are %v now", c.Kind, homes)
		}
	}
}

// refuses asks that New refuses, and that a maker tells the same each time.
func refuses(t *testing.T, c api.Config, want api.Errno) {
	t.Helper()
	if l, x, e := build.New(c); l != nil || x != nil || e != want {
		t.Errorf("%v: error %d, want %d; no lock: %t, no port: %t", c, e, want, l == nil, x == nil)
	}
	m := build.Later(c)
	for i := range 3 {
		if got := m.Made(); got != (i > 0) {
			t.Errorf("%v: Made() = %t behind %d times", c, got, i)
		}
		if l, x, e := m.Lock(); l != nil || x != nil || e != want {
			t.Errorf("%v: a maker, time %d: error %d, want %d; no lock: %t, no port: %t", c, i, e, want, l == nil, x == nil)
		}
	}
}

// There is no such kind: that is asked first, whatever else there is.
func TestNoSuchKindIsRefusedP17_1(t *testing.T) {
	for _, kind := range locktest.NoKinds() {
		for _, homes := range append(locktest.NoHomes(), locktest.Crowds()...) {
			for _, c := range locktest.Plain(homes) {
				c.Kind = kind
				refuses(t, c, api.ErrConfig)
			}
		}
	}
}

// Homes that may not be are told by each kind ahead of what else is wrong.
func TestWrongHomesP17_1(t *testing.T) {
	for _, homes := range locktest.NoHomes() {
		for _, c := range locktest.Plain(homes) {
			refuses(t, c, api.ErrArg)
			refuses(t, api.Config{Kind: c.Kind, Homes: homes}, api.ErrArg)
		}
	}
}

func TestWrongConfigurationsP17_1(t *testing.T) {
	for _, homes := range locktest.Crowds() {
		for _, c := range locktest.WrongConfigs(homes) {
			refuses(t, c, api.ErrConfig)
		}
	}
}

// makes asks a maker.
func makes(t *testing.T, c api.Config, m *build.Maker) *locktest.Pair {
	t.Helper()
	l, x, e := m.Lock()
	return ready(t, c, l, x, e)
}

func TestMadeP17_1(t *testing.T) {
	for _, c := range locktest.Plain([]int{1, 4}) {
		m, other := build.Later(c), build.Later(c)
		for range 3 {
			if m.Made() {
				t.Errorf("kind %d: made ahead of the first time", c.Kind)
			}
		}
		for range 3 {
			m.Lock()
			if !m.Made() || other.Made() {
				t.Errorf("kind %d: made: %t, and another one: %t", c.Kind, m.Made(), other.Made())
			}
		}
	}
}

// What a maker makes is what New does, also where what its kind doesn't look at
// is anything.
func TestMakesWhatNewDoesP17_1(t *testing.T) {
	r := locktest.Numbers(174)
	for _, homes := range locktest.Crowds() {
		for i, c := range locktest.Many(homes) {
			p := makes(t, c, build.Later(locktest.Besides(c, i-9)))
			for range 30 {
				p.Any(&r)
			}
		}
	}
}

// The homes that were handed in are those of that time, whatever becomes of them
// behind it: ahead of the first time that the maker is asked, and between two.
func TestHomesOfThatTimeP17_1(t *testing.T) {
	for i, c := range locktest.Plain([]int{6, 0, 6}) {
		for _, v := range []int{-1, 0, 1, 7, 8} {
			homes := []int{6, 0, 6}
			m := build.Later(locktest.Plain(homes)[i])
			homes[0], homes[1], homes[2] = v, v, v
			p := makes(t, c, m)
			homes[1] = 3
			l, x, e := m.Lock()
			if e != api.OK || x != p.Port {
				t.Fatalf("kind %d: error %d, another port: %t", c.Kind, e, x != p.Port)
			}
			p.Lock = l
			p.Holds()
			p.Bring(2, api.Holding)
		}
	}
}

// Whichever of a maker's answers is called and stepped, it is one lock, over one
// port; also if it is asked for in the midst of calls.
func TestOneLockP17_2(t *testing.T) {
	r := locktest.Numbers(175)
	for _, homes := range locktest.Crowds() {
		for _, c := range locktest.Plain(homes) {
			m := build.Later(c)
			p := makes(t, c, m)
			locks := []locktest.Lock{p.Lock}
			for range 400 {
				if r.Below(50) == 0 {
					l, x, e := m.Lock()
					if e != api.OK || x != p.Port || !m.Made() {
						t.Fatalf("kind %d: error %d, another port: %t", c.Kind, e, x != p.Port)
					}
					locks = append(locks, l)
				}
				p.Lock = locks[r.Below(len(locks))]
				p.Any(&r)
			}
		}
	}
}

// Several ask at one time: there is one lock.
func TestOneLockForAllWhoAskP17_2(t *testing.T) {
	for _, c := range locktest.Plain([]int{2, 3}) {
		m := build.Later(c)
		var locks [16]cohort.Locker
		var ports [16]*port.Port
		var group sync.WaitGroup
		for i := range locks {
			group.Go(func() {
				locks[i], ports[i], _ = m.Lock()
				if !m.Made() {
					t.Errorf("kind %d: not made behind it", c.Kind)
				}
			})
		}
		group.Wait()
		p := ready(t, c, locks[0], ports[0], api.OK)
		for i, l := range locks {
			if ports[i] != p.Port {
				t.Errorf("kind %d: the port %d is another one", c.Kind, i)
			}
			p.Lock = l
			p.GoesOn(1, 1)
		}
	}
}

// Two makers of one configuration make two locks.
func TestTwoMakersP17_2(t *testing.T) {
	r := locktest.Numbers(176)
	for _, c := range locktest.Plain([]int{3, 3, 6}) {
		a, b := build.Later(c), build.Later(c)
		apart(&r, makes(t, c, a), makes(t, c, b))
	}
}

// The error is the same one each time, also if the homes are right by then.
func TestOneErrorP17_2(t *testing.T) {
	for i := range all {
		homes := []int{8, 0}
		m := build.Later(locktest.Plain(homes)[i])
		for range 3 {
			if l, x, e := m.Lock(); l != nil || x != nil || e != api.ErrArg || !m.Made() {
				t.Errorf("kind %d: error %d; no lock: %t, no port: %t", i+1, e, l == nil, x == nil)
			}
			homes[0] = 1
		}
	}
}
