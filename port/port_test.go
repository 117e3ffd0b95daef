package port_test

import (
	"math"
	"slices"
	"testing"

	"weighlock/api"
	"weighlock/port"
)

const top = math.MaxUint32

// The five kinds of accesses.
const (
	load = iota
	store
	swap
	cas
	add
	kinds
)

// access is one access by a thread.
type access struct {
	kind, t, a int
	old, v     uint32 // old is a Cas's alone; v is what is stored or added
}

// answer is what an access tells; what a kind doesn't tell is zero.
type answer struct {
	was  uint32
	done bool
}

// does is the access to a port.
func (x access) does(p *port.Port) answer {
	switch x.kind {
	case load:
		return answer{was: p.Load(x.t, x.a)}
	case swap:
		return answer{was: p.Swap(x.t, x.a, x.v)}
	case cas:
		return answer{done: p.Cas(x.t, x.a, x.old, x.v)}
	case add:
		return answer{was: p.Add(x.t, x.a, x.v)}
	}
	p.Store(x.t, x.a, x.v)
	return answer{}
}

// counts is what is counted of a thread.
type counts struct{ accesses, writes, misses int }

// model is what the chapter says, in plain words: the homes and values of the
// words, of each word who has a valid copy, and what is counted of each thread.
type model struct {
	homes   []int
	words   []uint32
	copies  [][]bool
	threads []counts
}

func newModel(threads int, homes []int, words []uint32) *model {
	m := &model{homes: slices.Clone(homes), words: slices.Clone(words), copies: make([][]bool, len(words)), threads: make([]counts, threads)}
	for a := range m.copies {
		m.copies[a] = make([]bool, threads)
	}
	return m
}

func (m *model) has(t, a int) bool {
	return t >= 0 && t < len(m.threads) && a >= 0 && a < len(m.words)
}

// count counts the touch of a word by a thread.
func (m *model) count(t, a int, write bool) {
	n, mine, others := &m.threads[t], m.copies[a][t], false
	for u, has := range m.copies[a] {
		others = others || u != t && has
	}
	n.accesses++
	if !mine || write && others {
		n.misses++
	}
	if write {
		n.writes++
		clear(m.copies[a])
	}
	m.copies[a][t] = true
}

// does is the access to the model.
func (m *model) does(x access) answer {
	if !m.has(x.t, x.a) {
		return answer{}
	}
	m.count(x.t, x.a, x.kind != load)
	was := m.words[x.a]
	switch x.kind {
	case load:
		return answer{was: was}
	case store:
		m.words[x.a] = x.v
		return answer{}
	case swap:
		m.words[x.a] = x.v
	case cas:
		if was == x.old {
			m.words[x.a] = x.v
		}
		return answer{done: was == x.old}
	case add:
		m.words[x.a] = uint32((uint64(was) + uint64(x.v)) % (1 << 32))
	}
	return answer{was: was}
}

// noNumbers are threads or words that there aren't where there are n; some of
// them would be within n if they were cut to fewer bits.
func noNumbers(n int) []int {
	return []int{-1, -2, -64, n, n + 1, n + 64, math.MinInt64, math.MaxInt64, math.MinInt32, math.MaxInt32, 1 << 32, -1 << 32, 1<<32 + n - 1, -1<<32 + n - 1, 1 << 16, 64 << 8}
}

func newPort(t *testing.T, threads int, homes []int, words []uint32) (*port.Port, *model) {
	t.Helper()
	p, e := port.New(threads, homes, words)
	if e != api.OK || p == nil {
		t.Fatalf("New(%d, %v, %v) = %v, %d, want a port", threads, homes, words, p, e)
	}
	return p, newModel(threads, homes, words)
}

// holds asks every way of telling that is no access.
func holds(t *testing.T, p *port.Port, m *model) {
	t.Helper()
	if got := p.Threads(); got != len(m.threads) {
		t.Fatalf("Threads() = %d, want %d", got, len(m.threads))
	}
	if got := p.Len(); got != len(m.words) {
		t.Fatalf("Len() = %d, want %d", got, len(m.words))
	}
	if got := p.Words(); !slices.Equal(got, m.words) {
		t.Fatalf("Words() = %v, want %v", got, m.words)
	}
	for a, want := range m.homes {
		if got := p.Home(a); got != want {
			t.Fatalf("Home(%d) = %d, want %d", a, got, want)
		}
	}
	for u, want := range m.threads {
		if got := (counts{p.Accesses(u), p.Writes(u), p.Misses(u)}); got != want {
			t.Fatalf("accesses, writes and misses of the thread %d are %v, want %v", u, got, want)
		}
	}
}

// goes does the accesses to the port and to the model, and asks all behind
// each of them.
func goes(t *testing.T, p *port.Port, m *model, accesses ...access) {
	t.Helper()
	for i, x := range accesses {
		want := m.does(x)
		if got := x.does(p); got != want {
			t.Fatalf("access %d, %+v, tells %v, want %v", i, x, got, want)
		}
		holds(t, p, m)
	}
}

// counted asks what was counted of a thread, in the test's own numbers.
func counted(t *testing.T, p *port.Port, u, accesses, writes, misses int) {
	t.Helper()
	if p.Accesses(u) != accesses || p.Writes(u) != writes || p.Misses(u) != misses {
		t.Errorf("the thread %d has %d accesses, %d writes, %d misses, want %d, %d, %d", u, p.Accesses(u), p.Writes(u), p.Misses(u), accesses, writes, misses)
	}
}

func TestNewP4_1(t *testing.T) {
	for _, threads := range []int{1, 2, 63, 64} {
		p, m := newPort(t, threads, []int{0, 7, 3, 0}, []uint32{5, 0, top, 1 << 31})
		holds(t, p, m)
		counted(t, p, 0, 0, 0, 0)
		counted(t, p, threads-1, 0, 0, 0)
	}
}

func TestNewOfMostWordsP4_1(t *testing.T) {
	homes, words := make([]int, 4096), make([]uint32, 4096)
	for a := range homes {
		homes[a], words[a] = a%8, top-uint32(a)
	}
	p, m := newPort(t, 64, homes, words)
	holds(t, p, m)
	goes(t, p, m, access{kind: add, t: 63, a: 4095, v: 1}, access{kind: load, t: 0, a: 4095}, access{kind: swap, t: 0, a: 0, v: 3})
}

func TestNewOfNoWordsP4_1(t *testing.T) {
	for _, threads := range []int{1, 3, 64} {
		for _, homes := range [][]int{nil, {}} {
			for _, words := range [][]uint32{nil, {}} {
				p, m := newPort(t, threads, homes, words)
				holds(t, p, m)
				for _, a := range append(noNumbers(0), 0) {
					untouched(t, p, m, 0, a)
					untouched(t, p, m, threads-1, a)
				}
			}
		}
	}
}

func TestNewRefusesP4_1(t *testing.T) {
	wrongLast := make([]int, 4096)
	wrongLast[4095] = 8
	bigAndWrong := make([]int, 4097)
	bigAndWrong[0] = -1
	for _, c := range []struct {
		name    string
		threads int
		homes   []int
		words   int
		want    api.Errno
	}{
		{"no threads", 0, []int{0}, 1, api.ErrArg},
		{"no threads, no words", 0, nil, 0, api.ErrArg},
		{"threads below 0", -1, []int{0}, 1, api.ErrArg},
		{"threads far below 0", -64, []int{0}, 1, api.ErrArg},
		{"one thread too many", 65, []int{0}, 1, api.ErrArg},
		{"one thread too many, no words", 65, nil, 0, api.ErrArg},
		{"the least threads", math.MinInt64, []int{0}, 1, api.ErrArg},
		{"the most threads", math.MaxInt64, []int{0}, 1, api.ErrArg},
		{"threads that are 1 in 32 bits", 1<<32 + 1, []int{0}, 1, api.ErrArg},
		{"threads that are 1 in 8 bits", 256 + 1, []int{0}, 1, api.ErrArg},
		{"a word too few", 1, []int{0, 0}, 1, api.ErrArg},
		{"a word too many", 1, []int{0, 0}, 3, api.ErrArg},
		{"words without homes", 1, nil, 1, api.ErrArg},
		{"homes without words", 1, []int{0}, 0, api.ErrArg},
		{"most words, a home less", 1, make([]int, 4095), 4096, api.ErrArg},
		{"too many words", 1, make([]int, 4097), 4097, api.ErrBig},
		{"far too many words", 64, make([]int, 100000), 100000, api.ErrBig},
		{"too many words, and a wrong home", 1, bigAndWrong, 4097, api.ErrBig},
		{"home 8", 1, []int{8}, 1, api.ErrArg},
		{"home -1", 1, []int{-1}, 1, api.ErrArg},
		{"a home in the middle", 64, []int{0, 9, 7}, 3, api.ErrArg},
		{"the last home of as many as may be", 2, wrongLast, 4096, api.ErrArg},
		{"the least home", 1, []int{math.MinInt64}, 1, api.ErrArg},
		{"the greatest home", 1, []int{math.MaxInt64}, 1, api.ErrArg},
		{"a home that is 0 in 32 bits", 1, []int{1 << 32}, 1, api.ErrArg},
		{"no threads, too many words: the threads are asked first", 0, make([]int, 4097), 4097, api.ErrArg},
		{"65 threads, too many words: the threads are asked first", 65, make([]int, 4097), 4097, api.ErrArg},
		{"too many homes, not as many words: how many is asked first", 1, make([]int, 4097), 4096, api.ErrArg},
		{"too many words, not as many homes: how many is asked first", 1, make([]int, 4096), 4097, api.ErrArg},
		{"too many homes, no words: how many is asked first", 1, make([]int, 4097), 0, api.ErrArg},
	} {
		if p, e := port.New(c.threads, c.homes, make([]uint32, c.words)); p != nil || e != c.want {
			t.Errorf("%s: New = %v, %d, want nil, %d", c.name, p, e, c.want)
		}
	}
}

func TestNewKeepsNoListP4_1(t *testing.T) {
	homes, words := []int{1, 2, 3}, []uint32{10, 20, 30}
	p, m := newPort(t, 2, homes, words)
	other, otherModel := newPort(t, 2, homes, words)
	goes(t, p, m, access{kind: store, t: 0, a: 1, v: 5}, access{kind: add, t: 1, a: 2, v: 7})
	if !slices.Equal(homes, []int{1, 2, 3}) || !slices.Equal(words, []uint32{10, 20, 30}) {
		t.Errorf("what was handed in is %v and %v behind accesses", homes, words)
	}
	holds(t, other, otherModel)
	homes[0], homes[1], homes[2] = 7, 8, -1
	clear(words)
	holds(t, p, m)
	holds(t, other, otherModel)
}

func TestNewKeepsNoRoomBehindTheListsP4_1(t *testing.T) {
	homes, words := []int{1, 2, 3, 4}, []uint32{5, 6, 7, 8}
	p, m := newPort(t, 1, homes[:2], words[:2])
	holds(t, p, m)
	untouched(t, p, m, 0, 2)
	if !slices.Equal(homes, []int{1, 2, 3, 4}) || !slices.Equal(words, []uint32{5, 6, 7, 8}) {
		t.Errorf("what was handed in is %v and %v now", homes, words)
	}
}

func TestWordsIsACopyP4_1(t *testing.T) {
	p, m := newPort(t, 1, []int{0, 1, 2}, []uint32{4, 9, 0})
	got := p.Words()
	clear(got)
	_ = append(got[:1], 4, 4)
	holds(t, p, m)
	before := p.Words()
	goes(t, p, m, access{kind: store, a: 1, v: 3})
	if !slices.Equal(before, []uint32{4, 9, 0}) {
		t.Errorf("what Words told is %v behind a store, want [4 9 0]", before)
	}
}

func TestFirstAccessIsAMissP4_1(t *testing.T) {
	for kind := range kinds {
		for _, first := range []uint32{0, 5, top} {
			p, m := newPort(t, 2, []int{1, 1}, []uint32{first, first})
			goes(t, p, m, access{kind: kind, t: 1, a: 1, old: first, v: 6})
			if kind == load {
				counted(t, p, 1, 1, 0, 1)
			} else {
				counted(t, p, 1, 1, 1, 1)
			}
			counted(t, p, 0, 0, 0, 0)
		}
	}
}

func TestWhatEachTellsP4_1(t *testing.T) {
	for _, c := range []struct {
		was  uint32
		x    access
		want answer
		now  uint32
	}{
		{7, access{kind: load}, answer{was: 7}, 7},
		{0, access{kind: load}, answer{}, 0},
		{top, access{kind: load}, answer{was: top}, top},
		{7, access{kind: store, v: 9}, answer{}, 9},
		{7, access{kind: store, v: 7}, answer{}, 7},
		{7, access{kind: store}, answer{}, 0},
		{7, access{kind: swap, v: 9}, answer{was: 7}, 9},
		{7, access{kind: swap, v: 7}, answer{was: 7}, 7},
		{0, access{kind: swap, v: top}, answer{}, top},
		{7, access{kind: cas, old: 7, v: 9}, answer{done: true}, 9},
		{7, access{kind: cas, old: 8, v: 9}, answer{}, 7},
		{7, access{kind: cas, old: 9, v: 7}, answer{}, 7},
		{7, access{kind: cas, old: 7, v: 7}, answer{done: true}, 7},
		{0, access{kind: cas, v: 1}, answer{done: true}, 1},
		{1, access{kind: cas, v: 1}, answer{}, 1},
		{top, access{kind: cas, old: top}, answer{done: true}, 0},
		{7, access{kind: add, v: 9}, answer{was: 7}, 16},
		{7, access{kind: add}, answer{was: 7}, 7},
		{top, access{kind: add, v: 1}, answer{was: top}, 0},
		{1, access{kind: add, v: top}, answer{was: 1}, 0},
		{top, access{kind: add, v: top}, answer{was: top}, top - 1},
		{1 << 31, access{kind: add, v: 1<<31 + 3}, answer{was: 1 << 31}, 3},
	} {
		p, m := newPort(t, 3, []int{0, 0, 0}, []uint32{11, c.was, 12})
		x := c.x
		x.t, x.a = 2, 1
		if got := x.does(p); got != c.want || m.does(x) != c.want {
			t.Errorf("of a word that is %d: %+v tells %v, want %v", c.was, x, got, c.want)
		}
		if got := p.Words(); !slices.Equal(got, []uint32{11, c.now, 12}) {
			t.Errorf("behind %+v of a word that is %d the words are %v, want [11 %d 12]", x, c.was, got, c.now)
		}
		holds(t, p, m)
	}
}

// TestExampleP4_1: a Cas that does nothing is a write, and may be a miss.
func TestExampleP4_1(t *testing.T) {
	p, m := newPort(t, 2, []int{0}, []uint32{4})
	vain := access{kind: cas, t: 0, old: 5, v: 6}
	other := access{kind: load, t: 1}
	goes(t, p, m, vain)
	counted(t, p, 0, 1, 1, 1) // it had no copy
	goes(t, p, m, vain)
	counted(t, p, 0, 2, 2, 1) // it has the only one
	goes(t, p, m, other)
	counted(t, p, 1, 1, 0, 1)
	goes(t, p, m, vain)
	counted(t, p, 0, 3, 3, 2) // another one has one, too
	goes(t, p, m, other)
	counted(t, p, 1, 2, 0, 2) // the Cas took it
	if got := p.Words(); !slices.Equal(got, []uint32{4}) {
		t.Errorf("Words() = %v, want [4]: no Cas did anything", got)
	}
}

func TestLoadIsAReadP4_1(t *testing.T) {
	p, m := newPort(t, 3, []int{0, 0}, []uint32{8, 9})
	for range 5 {
		for u := range 3 {
			goes(t, p, m, access{kind: load, t: u, a: 1})
		}
	}
	for u := range 3 {
		counted(t, p, u, 5, 0, 1)
	}
	goes(t, p, m, access{kind: load, t: 0, a: 0})
	counted(t, p, 0, 6, 0, 2) // another word is another copy
}

func TestEachButLoadIsAWriteP4_1(t *testing.T) {
	for kind := store; kind < kinds; kind++ {
		for _, old := range []uint32{0, 3} {
			p, m := newPort(t, 3, []int{5}, []uint32{0})
			goes(t, p, m, access{kind: load, t: 0}, access{kind: load, t: 1})
			goes(t, p, m, access{kind: kind, t: 0, old: old})
			counted(t, p, 0, 2, 1, 2) // a write by one of two who have copies
			goes(t, p, m, access{kind: kind, t: 0, old: old})
			counted(t, p, 0, 3, 2, 2) // nobody else has one any more
			goes(t, p, m, access{kind: load, t: 0}, access{kind: load, t: 1})
			counted(t, p, 0, 4, 2, 2)
			counted(t, p, 1, 2, 0, 2)
			goes(t, p, m, access{kind: kind, t: 2, old: old})
			counted(t, p, 2, 1, 1, 1)
			goes(t, p, m, access{kind: load, t: 0}, access{kind: load, t: 1})
			counted(t, p, 0, 5, 2, 3)
			counted(t, p, 1, 3, 0, 3)
		}
	}
}

func TestOneThreadP4_1(t *testing.T) {
	p, m := newPort(t, 1, []int{0, 7}, []uint32{0, top})
	for kind := range kinds {
		goes(t, p, m, access{kind: kind, a: 1, old: top, v: 2}, access{kind: kind, a: 0, v: 2})
	}
	counted(t, p, 0, 10, 8, 2) // with nobody beside it, each word is missed once
}

func TestMostThreadsP4_1(t *testing.T) {
	p, m := newPort(t, 64, []int{0}, []uint32{top - 31})
	for u := range 64 {
		goes(t, p, m, access{kind: load, t: u})
	}
	for u := 63; u >= 0; u-- {
		goes(t, p, m, access{kind: add, t: u, v: 1}, access{kind: load, t: u})
	}
	for u := range 64 {
		counted(t, p, u, 3, 1, 2)
	}
	if got := p.Words(); !slices.Equal(got, []uint32{32}) {
		t.Errorf("Words() = %v, want [32]: the word went round", got)
	}
}

func TestAddGoesRoundP4_1(t *testing.T) {
	p, m := newPort(t, 2, []int{0}, []uint32{top - 1})
	for i, want := range []uint32{top - 1, top, 0, 1} {
		if got := p.Add(i%2, 0, 1); got != want {
			t.Errorf("Add %d tells %d, want %d", i, got, want)
		}
		m.does(access{kind: add, t: i % 2, v: 1})
		holds(t, p, m)
	}
}

// untouched asks all accesses by a thread and of a word that aren't both
// there, and that nothing is done or counted.
func untouched(t *testing.T, p *port.Port, m *model, u, a int) {
	t.Helper()
	if m.has(u, a) {
		t.Fatalf("there is a thread %d, and a word %d", u, a)
	}
	values := append([]uint32{0, 1, top}, m.words[:min(2, len(m.words))]...)
	for kind := range kinds {
		for _, v := range values {
			x := access{kind: kind, t: u, a: a, old: v, v: v + 1}
			if got := x.does(p); got != (answer{}) {
				t.Fatalf("%+v tells %v, want nothing: there is no such thread or word", x, got)
			}
		}
	}
	holds(t, p, m)
}

func TestThreadsAndWordsThatThereAreNotP4_1(t *testing.T) {
	for _, size := range [][2]int{{1, 1}, {2, 3}, {3, 64}, {63, 2}, {64, 5}} {
		threads, words := size[0], size[1]
		first := make([]uint32, words)
		for a := range first {
			first[a] = uint32(a) + 9
		}
		p, m := newPort(t, threads, make([]int, words), first)
		check := func() {
			t.Helper()
			for _, u := range noNumbers(threads) {
				for _, a := range []int{0, words - 1, words, -1} {
					untouched(t, p, m, u, a)
				}
			}
			for _, a := range noNumbers(words) {
				untouched(t, p, m, 0, a)
				untouched(t, p, m, threads-1, a)
			}
		}
		check()
		// Behind it all first loads are misses, and behind that none: nobody got a copy or lost one.
		for range 2 {
			for a := range words {
				for u := range threads {
					goes(t, p, m, access{kind: load, t: u, a: a})
				}
			}
			check()
		}
		for u := range threads {
			counted(t, p, u, 2*words, 0, words)
		}
	}
}

func TestWhatIsToldOfWhatThereIsNotP4_1(t *testing.T) {
	for _, threads := range []int{1, 2, 64} {
		p, m := newPort(t, threads, []int{7, 7, 7}, []uint32{1, 2, 3})
		for u := range threads {
			goes(t, p, m, access{kind: store, t: u, a: u % 3, v: 5}, access{kind: load, t: u, a: 0})
		}
		for _, u := range noNumbers(threads) {
			counted(t, p, u, 0, 0, 0)
		}
		for _, a := range noNumbers(3) {
			if got := p.Home(a); got != 0 {
				t.Errorf("Home(%d) = %d, want 0: there is no such word", a, got)
			}
		}
		holds(t, p, m)
	}
}

func TestTellingIsNoAccessP4_1(t *testing.T) {
	p, m := newPort(t, 2, []int{4, 2}, []uint32{1, 2})
	goes(t, p, m, access{kind: load, t: 0}, access{kind: load, t: 1})
	for range 3 {
		holds(t, p, m)
	}
	goes(t, p, m, access{kind: load, t: 0}, access{kind: load, t: 1})
	counted(t, p, 0, 2, 0, 1)
	counted(t, p, 1, 2, 0, 1)
}

// lcg gives numbers that look like any, the same ones each time.
type lcg uint64

func (g *lcg) below(n int) int {
	*g = *g*6364136223846793005 + 1442695040888963407
	return int(uint64(*g)>>33) % n
}

// number is mostly one below n, and now and then one beside it.
func (g *lcg) number(n int) int {
	if g.below(12) == 0 {
		beside := noNumbers(n)
		return beside[g.below(len(beside))]
	}
	return g.below(n)
}

// value is mostly small, so that a Cas finds what it says often enough.
func (g *lcg) value() uint32 {
	if g.below(4) == 0 {
		return top - uint32(g.below(3))
	}
	return uint32(g.below(4))
}

func TestAnyAccessesP4_1(t *testing.T) {
	for seed := range 60 {
		g := lcg(seed)
		threads := []int{1, 2, 3, 8, 33, 63, 64}[g.below(7)]
		homes, words := make([]int, 1+g.below(6)), []uint32{}
		for a := range homes {
			homes[a] = g.below(8)
			words = append(words, g.value())
		}
		p, m := newPort(t, threads, homes, words)
		loads := g.below(3) // in some runs most accesses are reads
		for range 1500 {
			kind := g.below(kinds)
			if g.below(3) < loads {
				kind = load
			}
			goes(t, p, m, access{kind: kind, t: g.number(threads), a: g.number(len(homes)), old: g.value(), v: g.value()})
		}
	}
}
