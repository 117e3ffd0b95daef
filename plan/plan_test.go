package plan_test

import (
	"math"
	"slices"
	"testing"

	"weighlock/api"
	"weighlock/plan"
	"weighlock/port"
)

const top = math.MaxUint32

// model is what the chapter says, in plain words: for how many threads a plan
// is, and the homes and values of its words.
type model struct {
	threads int
	homes   []int
	values  []uint32
}

// row lays n words, one by one; a word is a row of one.
func (m *model) row(n, home int, v uint32) int {
	first := len(m.homes)
	for i := 0; i < n && i <= 4096; i++ {
		m.homes = append(m.homes, home)
		m.values = append(m.values, v)
	}
	return first
}

// wants is the error of the plan's port.
func (m *model) wants() api.Errno {
	switch {
	case m.threads < 1 || m.threads > 64:
		return api.ErrArg
	case len(m.homes) > 4096:
		return api.ErrBig
	}
	for _, home := range m.homes {
		if home < 0 || home > 7 {
			return api.ErrArg
		}
	}
	return api.OK
}

// call is a Word, or a Row of n.
type call struct {
	row  bool
	n    int
	home int
	v    uint32
}

func word(home int, v uint32) call   { return call{n: 1, home: home, v: v} }
func row(n, home int, v uint32) call { return call{row: true, n: n, home: home, v: v} }

func newPlan(t *testing.T, threads int) (*plan.Plan, *model) {
	t.Helper()
	p := plan.New(threads)
	if p == nil || p.Len() != 0 {
		t.Fatalf("New(%d) = %v, want a plan without words", threads, p)
	}
	return p, &model{threads: threads}
}

// goes does the calls, and asks the address and Len behind each.
func goes(t *testing.T, p *plan.Plan, m *model, calls ...call) {
	t.Helper()
	for i, c := range calls {
		want := m.row(c.n, c.home, c.v)
		got := 0
		if c.row {
			got = p.Row(c.n, c.home, c.v)
		} else {
			got = p.Word(c.home, c.v)
		}
		if got != want || p.Len() != len(m.homes) {
			t.Fatalf("call %d: %+v = %d, and Len() = %d behind it, want %d, %d", i, c, got, p.Len(), want, len(m.homes))
		}
	}
}

// isNew asks that a port is one of these words that nobody has used.
func isNew(t *testing.T, x *port.Port, m *model) {
	t.Helper()
	if x.Threads() != m.threads || x.Len() != len(m.homes) {
		t.Fatalf("a port for %d threads with %d words, want %d, %d", x.Threads(), x.Len(), m.threads, len(m.homes))
	}
	for a, want := range m.homes {
		if got := x.Home(a); got != want {
			t.Fatalf("Home(%d) = %d, want %d", a, got, want)
		}
	}
	if got := x.Words(); !slices.Equal(got, m.values) {
		t.Fatalf("Words() = %v, want %v", got, m.values)
	}
	for u := range m.threads {
		if x.Accesses(u) != 0 || x.Writes(u) != 0 || x.Misses(u) != 0 {
			t.Fatalf("the thread %d of a new port has %d accesses, %d writes, %d misses, want none", u, x.Accesses(u), x.Writes(u), x.Misses(u))
		}
	}
}

// holds asks for the port of all, twice, and tells the second one.
func holds(t *testing.T, p *plan.Plan, m *model) *port.Port {
	t.Helper()
	var x *port.Port
	for range 2 {
		before := x
		var e api.Errno
		x, e = p.Port()
		if want := m.wants(); e != want || (x != nil) != (want == api.OK) {
			t.Fatalf("of %d threads and %d words: Port() = %v, %d, want the error %d", m.threads, len(m.homes), x, e, want)
		}
		if x == nil {
			continue
		}
		if x == before {
			t.Fatal("Port() = the same port again, want a new one")
		}
		isNew(t, x, m)
	}
	if p.Len() != len(m.homes) {
		t.Fatalf("Len() = %d behind Port(), want %d", p.Len(), len(m.homes))
	}
	return x
}

// refused asks that there is no port, for this reason.
func refused(t *testing.T, p *plan.Plan, m *model, want api.Errno) {
	t.Helper()
	if m.wants() != want {
		t.Fatalf("the test says that the error is %d, and its model says %d", want, m.wants())
	}
	holds(t, p, m)
}

// TestExampleP5_1: Word, Row of 3, Word: 0, 1, 4.
func TestExampleP5_1(t *testing.T) {
	p := plan.New(1)
	for i, got := range []int{p.Word(0, 0), p.Row(3, 0, 0), p.Word(0, 0)} {
		if want := []int{0, 1, 4}[i]; got != want {
			t.Errorf("call %d tells %d, want %d", i, got, want)
		}
	}
	if got := p.Len(); got != 5 {
		t.Errorf("Len() = %d, want 5", got)
	}
}

func TestWordAndRowP5_1(t *testing.T) {
	for _, threads := range []int{1, 2, 63, 64} {
		p, m := newPlan(t, threads)
		holds(t, p, m)
		for _, c := range []call{
			word(3, 9),
			row(4, 7, 5),
			word(0, 0),
			word(7, top),
			row(1, 2, 1<<31),
			row(2, 0, 0),
			word(1, 1),
			row(3, 1, top),
		} {
			goes(t, p, m, c)
			holds(t, p, m)
		}
	}
}

func TestRowFirstP5_1(t *testing.T) {
	p, m := newPlan(t, 2)
	goes(t, p, m, row(5, 6, 4), word(2, 3))
	holds(t, p, m)
}

func TestWordsAloneP5_1(t *testing.T) {
	p, m := newPlan(t, 3)
	for a := range 100 {
		goes(t, p, m, word(a%8, top-uint32(a)))
	}
	holds(t, p, m)
}

func TestRowOfNoneP5_1(t *testing.T) {
	p, m := newPlan(t, 2)
	for _, n := range []int{0, -1, -2, -4096, -4097, -1 << 32, -1<<32 + 1, math.MinInt32, math.MinInt64, math.MinInt64 + 1} {
		// A home that there may not be is nobody's here.
		goes(t, p, m, row(n, 3, 8), row(n, 9, 1))
		holds(t, p, m)
	}
	goes(t, p, m, word(5, 6), row(0, 1, 1), row(-1, 1, 1), word(4, 7), row(-3, 8, 0), row(2, 0, 2), row(0, 0, 0))
	holds(t, p, m)
	if p.Len() != 4 {
		t.Errorf("Len() = %d, want 4", p.Len())
	}
}

func TestPlanOfNoWordsP5_1(t *testing.T) {
	for _, threads := range []int{1, 5, 64} {
		p, m := newPlan(t, threads)
		x := holds(t, p, m)
		if x.Home(0) != 0 || x.Load(0, 0) != 0 || x.Add(0, 0, 1) != 0 {
			t.Error("a port of no words has a word")
		}
		isNew(t, x, m)
	}
}

func TestMostWordsP5_1(t *testing.T) {
	for name, calls := range map[string][]call{
		"a row of all":            {row(4096, 7, top)},
		"rows":                    {row(4095, 1, 2), row(1, 3, 4)},
		"a row and a word":        {row(4095, 1, 2), word(3, 4)},
		"a word and a row":        {word(3, 4), row(4095, 1, 2)},
		"a word between":          {row(2000, 5, 5), word(3, 4), row(2095, 6, 6)},
		"a row of none behind it": {row(4096, 7, top), row(0, 8, 1), row(-1, 8, 1)},
	} {
		t.Run(name, func(t *testing.T) {
			p, m := newPlan(t, 64)
			goes(t, p, m, calls...)
			x := holds(t, p, m)
			if p.Len() != 4096 {
				t.Fatalf("Len() = %d, want 4096", p.Len())
			}
			if got := x.Load(63, 4095); got != m.values[4095] {
				t.Errorf("the last word is %d, want %d", got, m.values[4095])
			}
		})
	}
}

func TestMostWordsOneByOneP5_1(t *testing.T) {
	p, m := newPlan(t, 1)
	for a := range 4096 {
		goes(t, p, m, word(a%8, uint32(a)))
	}
	holds(t, p, m)
	goes(t, p, m, word(0, 0))
	refused(t, p, m, api.ErrBig)
	goes(t, p, m, word(0, 0))
	refused(t, p, m, api.ErrBig)
}

// TestRowOfTooManyP5_1: a row of more than 4096 is one of 4097, so that Len
// tells how many words were laid, and the next address is the one behind them.
func TestRowOfTooManyP5_1(t *testing.T) {
	for _, n := range []int{4097, 4098, 8194, 100000, 1 << 32, 1<<32 + 1, 1 << 40, math.MaxInt32, math.MaxInt64, math.MaxInt64 - 1} {
		p, m := newPlan(t, 2)
		if got := p.Row(n, 3, 5); got != 0 || p.Len() != 4097 {
			t.Fatalf("Row(%d) = %d, and Len() = %d behind it, want 0, 4097", n, got, p.Len())
		}
		m.row(4097, 3, 5)
		refused(t, p, m, api.ErrBig)
		goes(t, p, m, word(1, 1), row(2, 0, 0), row(0, 0, 0), row(-1, 0, 0), row(n, 0, 0), word(2, 2))
		if got := p.Len(); got != 2*4097+4 {
			t.Fatalf("Len() = %d, want %d", got, 2*4097+4)
		}
		refused(t, p, m, api.ErrBig)
	}
}

func TestTooManyWordsBitByBitP5_1(t *testing.T) {
	for name, calls := range map[string][]call{
		"a word behind the most":      {row(4096, 0, 1), word(0, 1)},
		"a row behind the most":       {row(4096, 0, 1), row(1, 0, 1)},
		"the most behind a word":      {word(0, 1), row(4096, 0, 1)},
		"two rows":                    {row(4000, 0, 1), row(4000, 7, 1)},
		"a row of too many behind":    {word(0, 1), row(1<<40, 0, 1)},
		"a row of too many, and none": {row(4097, 0, 1), row(0, 0, 1)},
	} {
		t.Run(name, func(t *testing.T) {
			p, m := newPlan(t, 1)
			goes(t, p, m, calls...)
			refused(t, p, m, api.ErrBig)
			refused(t, p, m, api.ErrBig)
		})
	}
}

func TestManyRowsOfTooManyP5_1(t *testing.T) {
	p := plan.New(1)
	const rows = 20000
	for i := range rows {
		if got := p.Row(math.MaxInt, i, 1); got != 4097*i {
			t.Fatalf("row %d begins at %d, want %d", i, got, 4097*i)
		}
	}
	if got := p.Len(); got != 4097*rows {
		t.Errorf("Len() = %d, want %d", got, 4097*rows)
	}
	if x, e := p.Port(); x != nil || e != api.ErrBig {
		t.Errorf("Port() = %v, %d, want nil, %d", x, e, api.ErrBig)
	}
}

func TestThreadsThatMayNotBeP5_1(t *testing.T) {
	for _, threads := range []int{0, -1, -64, 65, 66, 128, 256 + 1, 1 << 32, 1<<32 + 1, -1<<32 + 1, math.MinInt64, math.MaxInt64} {
		p, m := newPlan(t, threads)
		refused(t, p, m, api.ErrArg)
		goes(t, p, m, word(2, 3), row(3, 1, 1))
		refused(t, p, m, api.ErrArg)
		goes(t, p, m, word(8, 0))
		refused(t, p, m, api.ErrArg)
		// The threads are asked ahead of how many words there are.
		goes(t, p, m, row(4097, 0, 0))
		refused(t, p, m, api.ErrArg)
	}
}

func TestHomesThatMayNotBeP5_1(t *testing.T) {
	for _, home := range []int{-1, -7, 8, 9, 64, 256, 1 << 32, 1<<32 + 7, -1 << 32, math.MinInt64, math.MaxInt64} {
		for name, calls := range map[string][]call{
			"the only word":         {word(home, 0)},
			"the first word":        {word(home, 0), row(3, 1, 2)},
			"a word between":        {word(7, 0), word(home, 0), word(0, 0)},
			"the last word":         {row(2, 7, 1), word(home, 5)},
			"a row":                 {row(2, home, 1)},
			"a row between":         {word(0, 1), row(1, home, 0), word(0, 1)},
			"the last of the most":  {row(4095, 0, 1), word(home, 0)},
			"the first of the most": {word(home, 0), row(4095, 0, 1)},
		} {
			t.Run(name, func(t *testing.T) {
				p, m := newPlan(t, 64)
				goes(t, p, m, calls...)
				refused(t, p, m, api.ErrArg)
			})
		}
		// How many words there are is asked ahead of their homes.
		p, m := newPlan(t, 1)
		goes(t, p, m, row(4096, home, 0))
		refused(t, p, m, api.ErrArg)
		goes(t, p, m, word(home, 0))
		refused(t, p, m, api.ErrBig)
	}
}

// TestPortsAreApartP5_1: what is done to one port of a plan changes nothing of
// the other one, nor of the plan.
func TestPortsAreApartP5_1(t *testing.T) {
	p, m := newPlan(t, 2)
	goes(t, p, m, word(4, 9), row(3, 1, 5))
	first, _ := p.Port()
	second, _ := p.Port()
	for a := range first.Len() {
		first.Store(0, a, 77)
		first.Load(1, a)
	}
	isNew(t, second, m)
	holds(t, p, m)
	second.Add(1, 2, 1)
	if got := first.Words(); !slices.Equal(got, []uint32{77, 77, 77, 77}) {
		t.Errorf("Words() = %v behind an Add to another port, want four of 77", got)
	}
	if first.Accesses(1) != 4 || second.Accesses(1) != 1 || second.Accesses(0) != 0 {
		t.Errorf("accesses are %d, %d, %d, want 4, 1, 0", first.Accesses(1), second.Accesses(1), second.Accesses(0))
	}
	holds(t, p, m)
}

// TestWordsBehindAPortP5_1: a port has the words of its time.
func TestWordsBehindAPortP5_1(t *testing.T) {
	p, m := newPlan(t, 2)
	goes(t, p, m, word(4, 9), row(3, 1, 5))
	then := model{threads: 2, homes: slices.Clone(m.homes), values: slices.Clone(m.values)}
	first, _ := p.Port()
	goes(t, p, m, word(6, 8), row(2, 0, 3))
	isNew(t, first, &then)
	first.Store(0, 3, 1)
	second := holds(t, p, m)
	second.Swap(1, 0, 2)
	if got := first.Words(); !slices.Equal(got, []uint32{9, 5, 5, 1}) {
		t.Errorf("Words() = %v of the first port, want [9 5 5 1]", got)
	}
	goes(t, p, m, row(4096, 0, 0))
	refused(t, p, m, api.ErrBig)
	if first.Len() != 4 || second.Len() != 7 {
		t.Errorf("ports of 4 and 7 words have %d and %d now", first.Len(), second.Len())
	}
}

func TestPortBehindEachWordP5_1(t *testing.T) {
	p, m := newPlan(t, 1)
	var ports []*port.Port
	for a := range 40 {
		goes(t, p, m, word(a%8, uint32(a)))
		ports = append(ports, holds(t, p, m))
	}
	for a, x := range ports {
		isNew(t, x, &model{threads: 1, homes: m.homes[:a+1], values: m.values[:a+1]})
		x.Store(0, a, top)
	}
	holds(t, p, m)
}

func TestPlansAreApartP5_1(t *testing.T) {
	p, m := newPlan(t, 1)
	q, n := newPlan(t, 64)
	goes(t, p, m, word(1, 2), row(3, 4, 5))
	holds(t, q, n)
	goes(t, q, n, row(2, 8, 0))
	holds(t, p, m)
	goes(t, p, m, word(6, 7))
	refused(t, q, n, api.ErrArg)
	holds(t, p, m)
}

// lcg gives numbers that look like any, the same ones each time.
type lcg uint64

func (g *lcg) below(n int) int {
	*g = *g*6364136223846793005 + 1442695040888963407
	return int(uint64(*g)>>33) % n
}

// size is mostly small; now and then it is at an edge or beside it.
func (g *lcg) size() int {
	if g.below(8) != 0 {
		return g.below(9) - 2
	}
	edges := []int{-4097, 0, 1000, 2000, 4094, 4095, 4096, 4097, 1 << 40, math.MinInt64, math.MaxInt64}
	return edges[g.below(len(edges))]
}

func TestAnyCallsP5_1(t *testing.T) {
	for seed := range 200 {
		g := lcg(seed)
		p, m := newPlan(t, []int{0, 1, 2, 3, 33, 64, 65}[g.below(7)])
		wrong := g.below(3) == 0 // in some runs a home may be one that there may not be
		for range 30 {
			home := g.below(8)
			if wrong && g.below(10) == 0 {
				home = []int{-1, 8, math.MaxInt64}[g.below(3)]
			}
			c := word(home, uint32(g.below(1<<31))*2)
			if g.below(2) == 0 {
				c = row(g.size(), home, c.v+1)
			}
			goes(t, p, m, c)
			if g.below(3) == 0 {
				holds(t, p, m)
			}
		}
		holds(t, p, m)
	}
}
