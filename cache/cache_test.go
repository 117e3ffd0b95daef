package cache_test

import (
	"math"
	"slices"
	"testing"

	"weighlock/api"
	"weighlock/cache"
)

// model is what the chapter says, in plain words: of each word, who has a
// valid copy; of each thread, how many misses it had.
type model struct {
	copies [][]bool
	misses []int
}

func newModel(threads, words int) *model {
	m := &model{copies: make([][]bool, words), misses: make([]int, threads)}
	for a := range m.copies {
		m.copies[a] = make([]bool, threads)
	}
	return m
}

func (m *model) has(t, a int) bool {
	return t >= 0 && t < len(m.misses) && a >= 0 && a < len(m.copies) && m.copies[a][t]
}

func (m *model) touch(t, a int, write bool) bool {
	if t < 0 || t >= len(m.misses) || a < 0 || a >= len(m.copies) {
		return false
	}
	mine, others := m.copies[a][t], false
	for u, has := range m.copies[a] {
		others = others || u != t && has
	}
	miss := !mine || write && others
	if write {
		clear(m.copies[a])
	}
	m.copies[a][t] = true
	if miss {
		m.misses[t]++
	}
	return miss
}

func (m *model) total() int {
	sum := 0
	for _, n := range m.misses {
		sum += n
	}
	return sum
}

// noNumbers are threads or words that there aren't where there are n; some of
// them would be within n if they were cut to fewer bits.
func noNumbers(n int) []int {
	return []int{-1, -2, -64, n, n + 1, n + 64, math.MinInt64, math.MaxInt64, math.MinInt32, math.MaxInt32, 1 << 32, -1 << 32, 1<<32 + n - 1, -1<<32 + n - 1, 1 << 16, 64 << 8}
}

func newCache(t *testing.T, threads, words int) *cache.Cache {
	t.Helper()
	c, e := cache.New(threads, words)
	if e != api.OK || c == nil {
		t.Fatalf("New(%d, %d) = %v, %d, want a cache", threads, words, c, e)
	}
	return c
}

// holds asks every way of telling what there is.
func holds(t *testing.T, c *cache.Cache, m *model) {
	t.Helper()
	for a := range m.copies {
		for u := range m.misses {
			if got, want := c.Has(u, a), m.has(u, a); got != want {
				t.Fatalf("Has(%d, %d) = %v, want %v", u, a, got, want)
			}
		}
	}
	for u, want := range m.misses {
		if got := c.Misses(u); got != want {
			t.Fatalf("Misses(%d) = %d, want %d", u, got, want)
		}
	}
	if got, want := c.Total(), m.total(); got != want {
		t.Fatalf("Total() = %d, want %d", got, want)
	}
}

// touch is one touch, with what is said of it.
type touch struct {
	t, a  int
	write bool
	miss  bool
}

// goes does the touches, and asks all behind each of them.
func goes(t *testing.T, c *cache.Cache, m *model, touches ...touch) {
	t.Helper()
	for i, x := range touches {
		if got := c.Touch(x.t, x.a, x.write); got != x.miss {
			t.Fatalf("touch %d: Touch(%d, %d, %v) = %v, want %v", i, x.t, x.a, x.write, got, x.miss)
		}
		if m.touch(x.t, x.a, x.write) != x.miss {
			t.Fatalf("touch %d: the test says that %v is a miss: %v, and its model doesn't", i, x, x.miss)
		}
		holds(t, c, m)
	}
}

func TestNewP3_1(t *testing.T) {
	for _, size := range [][2]int{{1, 0}, {1, 1}, {2, 3}, {63, 4095}, {64, 0}, {64, 4096}, {1, 4096}} {
		holds(t, newCache(t, size[0], size[1]), newModel(size[0], size[1]))
	}
}

func TestNewRefusesP3_1(t *testing.T) {
	for _, size := range [][2]int{
		{0, 1}, {-1, 1}, {-64, 1}, {65, 1}, {128, 1}, {1 << 32, 1}, {1<<32 + 1, 1}, {-1<<32 + 1, 1}, {256 + 1, 1}, {math.MinInt64, 1}, {math.MaxInt64, 1},
		{1, -1}, {1, -4096}, {1, 4097}, {1, 100000}, {1, 1 << 32}, {1, -1 << 32}, {1, 1<<32 + 1}, {1, math.MinInt64}, {1, math.MaxInt64},
		{0, 0}, {0, 4096}, {64, -1}, {64, 4097}, {65, 4096}, {65, 0}, {0, -1}, {65, 4097}, {-1, -1},
	} {
		if c, e := cache.New(size[0], size[1]); c != nil || e != api.ErrArg {
			t.Errorf("New(%d, %d) = %v, %d, want nil, %d", size[0], size[1], c, e, api.ErrArg)
		}
	}
}

func TestExampleP3_1(t *testing.T) {
	goes(t, newCache(t, 2, 1), newModel(2, 1),
		touch{0, 0, false, true},
		touch{1, 0, false, true},
		touch{0, 0, true, true},
		touch{1, 0, false, true},
	)
}

func TestFirstTouchIsAMissP3_1(t *testing.T) {
	for _, write := range []bool{false, true} {
		c, m := newCache(t, 3, 3), newModel(3, 3)
		goes(t, c, m, touch{1, 0, write, true}, touch{1, 2, write, true}, touch{2, 1, write, true}, touch{0, 0, write, true})
	}
}

func TestWriteByWhoHasTheOnlyCopyP3_1(t *testing.T) {
	for _, first := range []bool{false, true} {
		for u := range 64 {
			goes(t, newCache(t, 64, 2), newModel(64, 2),
				touch{u, 1, first, true},
				touch{u, 1, true, false},
				touch{u, 1, true, false},
				touch{u, 1, false, false},
				touch{u, 0, true, true},
			)
		}
	}
}

func TestWriteByWhoHasOneOfSeveralP3_1(t *testing.T) {
	goes(t, newCache(t, 4, 2), newModel(4, 2),
		touch{0, 1, false, true},
		touch{1, 1, false, true},
		touch{2, 1, false, true},
		touch{1, 1, true, true},  // it has one, but so have 0 and 2
		touch{1, 1, true, false}, // nobody else has one any more
		touch{1, 1, false, false},
		touch{0, 1, false, true},
		touch{1, 1, false, false}, // a read takes nobody's
		touch{1, 1, true, true},
		touch{2, 1, true, true}, // it had none: 1 had the only one
		touch{1, 1, true, true},
		touch{2, 1, false, true},
		touch{2, 1, true, true},
	)
}

func TestWriteByWhoHasNoneP3_1(t *testing.T) {
	goes(t, newCache(t, 3, 1), newModel(3, 1),
		touch{0, 0, false, true},
		touch{1, 0, false, true},
		touch{2, 0, true, true},
		touch{2, 0, true, false},
		touch{0, 0, false, true},
		touch{1, 0, true, true},
	)
}

func TestWordsAreApartP3_1(t *testing.T) {
	goes(t, newCache(t, 2, 3), newModel(2, 3),
		touch{0, 0, false, true},
		touch{0, 1, false, true},
		touch{0, 2, false, true},
		touch{1, 1, true, true},
		touch{0, 0, false, false},
		touch{0, 2, true, false},
		touch{0, 1, false, true},
		touch{1, 1, false, false},
	)
}

func TestOneThreadP3_1(t *testing.T) {
	goes(t, newCache(t, 1, 2), newModel(1, 2),
		touch{0, 1, true, true},
		touch{0, 1, false, false},
		touch{0, 0, false, true},
		touch{0, 0, true, false},
		touch{0, 1, true, false},
	)
}

func TestMostThreadsP3_1(t *testing.T) {
	c, m := newCache(t, 64, 1), newModel(64, 1)
	for u := range 64 {
		goes(t, c, m, touch{u, 0, false, true})
	}
	for u := range 64 {
		goes(t, c, m, touch{u, 0, false, false})
	}
	// Each writes in turn, and takes the copy of the one ahead of it.
	for u := 63; u >= 0; u-- {
		goes(t, c, m, touch{u, 0, true, true}, touch{u, 0, true, false})
	}
}

func TestMostWordsP3_1(t *testing.T) {
	c, m := newCache(t, 2, 4096), newModel(2, 4096)
	for a := range 4096 {
		for _, x := range []touch{{0, a, false, true}, {1, a, true, true}, {1, a, true, false}, {0, a, a%2 == 0, true}} {
			if got := c.Touch(x.t, x.a, x.write); got != x.miss || m.touch(x.t, x.a, x.write) != x.miss {
				t.Fatalf("Touch(%d, %d, %v) = %v, want %v", x.t, x.a, x.write, got, x.miss)
			}
		}
	}
	holds(t, c, m)
	if c.Misses(0) != 8192 || c.Misses(1) != 4096 || c.Total() != 12288 {
		t.Errorf("misses are %d, %d, in all %d, want 8192, 4096, 12288", c.Misses(0), c.Misses(1), c.Total())
	}
}

func TestAskingChangesNothingP3_1(t *testing.T) {
	c, m := newCache(t, 3, 2), newModel(3, 2)
	goes(t, c, m, touch{0, 0, false, true}, touch{1, 0, false, true}, touch{2, 1, true, true})
	for range 3 {
		holds(t, c, m)
	}
	goes(t, c, m, touch{2, 0, false, true}, touch{0, 1, false, true}, touch{0, 0, false, false})
}

func TestCachesAreApartP3_1(t *testing.T) {
	first, second := newCache(t, 2, 2), newCache(t, 2, 2)
	m := newModel(2, 2)
	goes(t, first, m, touch{0, 0, true, true}, touch{1, 1, false, true})
	holds(t, second, newModel(2, 2))
	goes(t, second, newModel(2, 2), touch{1, 0, true, true}, touch{0, 0, true, true})
	holds(t, first, m)
}

// untouched asks all of a thread and a word that aren't both there, and that
// nothing is done.
func untouched(t *testing.T, c *cache.Cache, m *model, u, a int) {
	t.Helper()
	for _, write := range []bool{false, true, true, false} {
		if c.Touch(u, a, write) {
			t.Fatalf("Touch(%d, %d, %v) = true, want false: there is no such thread or word", u, a, write)
		}
		if c.Has(u, a) {
			t.Fatalf("Has(%d, %d) = true, want false: there is no such thread or word", u, a)
		}
	}
	holds(t, c, m)
}

func TestThreadsAndWordsThatThereAreNotP3_1(t *testing.T) {
	for _, size := range [][2]int{{1, 1}, {2, 3}, {3, 64}, {63, 2}, {64, 5}} {
		threads, words := size[0], size[1]
		c, m := newCache(t, threads, words), newModel(threads, words)
		check := func() {
			t.Helper()
			for _, u := range noNumbers(threads) {
				if got := c.Misses(u); got != 0 {
					t.Fatalf("Misses(%d) = %d, want 0: there is no such thread", u, got)
				}
				untouched(t, c, m, u, 0)
				untouched(t, c, m, u, words-1)
				untouched(t, c, m, u, words)
			}
			for _, a := range noNumbers(words) {
				untouched(t, c, m, 0, a)
				untouched(t, c, m, threads-1, a)
			}
		}
		check()
		for a := range words {
			for u := range threads {
				if !c.Touch(u, a, false) || !m.touch(u, a, false) {
					t.Fatalf("Touch(%d, %d, false) = false, want true: the first one", u, a)
				}
			}
		}
		check()
	}
}

func TestNoWordsP3_1(t *testing.T) {
	for _, threads := range []int{1, 5, 64} {
		c, m := newCache(t, threads, 0), newModel(threads, 0)
		for u := range threads {
			for _, a := range append(noNumbers(0), 0) {
				untouched(t, c, m, u, a)
			}
		}
		if got := c.Misses(-1) + c.Misses(threads) + c.Total(); got != 0 {
			t.Errorf("misses without words are %d, want 0", got)
		}
	}
}

// lcg gives numbers that look like any, the same ones each time.
type lcg uint64

func (g *lcg) below(n int) int {
	*g = *g*6364136223846793005 + 1442695040888963407
	return int(uint64(*g)>>33) % n
}

// number is mostly one below n, and now and then one beside it.
func (g *lcg) number(n int) int {
	if g.below(10) == 0 {
		beside := noNumbers(n)
		return beside[g.below(len(beside))]
	}
	return g.below(n)
}

func TestAnyTouchesP3_1(t *testing.T) {
	for seed := range 60 {
		g := lcg(seed)
		threads := []int{1, 2, 3, 8, 33, 63, 64}[g.below(7)]
		words := 1 + g.below(5)
		writes := 2 + g.below(6) // one touch in so many is a write
		c, m := newCache(t, threads, words), newModel(threads, words)
		for i := range 1500 {
			u, a, write := g.number(threads), g.number(words), g.below(writes) == 0
			want := m.touch(u, a, write)
			if got := c.Touch(u, a, write); got != want {
				t.Fatalf("seed %d, touch %d: Touch(%d, %d, %v) = %v, want %v", seed, i, u, a, write, got, want)
			}
			holds(t, c, m)
		}
	}
}

// readsAgain lets a thread read a word again and again, others reading it
// meanwhile and writing other words, and counts its misses.
func readsAgain(t *testing.T, c *cache.Cache, threads, words, u, a int) int {
	t.Helper()
	before, told := c.Misses(u), 0
	for i := range 200 {
		if c.Touch(u, a, false) {
			told++
		}
		c.Touch(i%threads, a, false)
		if threads > 1 && words > 1 {
			c.Touch((u+1)%threads, (a+1)%words, true)
		}
	}
	if got := c.Misses(u) - before; got != told {
		t.Errorf("Misses(%d) grew by %d behind %d misses", u, got, told)
	}
	return told
}

func TestReadsAgainAndAgainP3_2(t *testing.T) {
	for _, size := range [][2]int{{1, 1}, {2, 1}, {2, 3}, {64, 2}} {
		threads, words := size[0], size[1]
		for u := range threads {
			a := u % words
			c := newCache(t, threads, words)
			if got := readsAgain(t, c, threads, words, u, a); got != 1 {
				t.Errorf("%d of %d threads read a new word again and again: %d misses, want 1", u, threads, got)
			}
			c.Touch((u+1)%threads, a, true)
			want := 1
			if threads == 1 {
				want = 0 // it wrote the word itself, and has it
			}
			if got := readsAgain(t, c, threads, words, u, a); got != want {
				t.Errorf("%d of %d threads read a word that was written again and again: %d misses, want %d", u, threads, got, want)
			}
			c.Touch(u, a, true)
			if got := readsAgain(t, c, threads, words, u, a); got != 0 {
				t.Errorf("%d of %d threads read what it wrote again and again: %d misses, want 0", u, threads, got)
			}
		}
	}
}

func TestReadsAgainWithoutAWriteBehindAnyTouchesP3_2(t *testing.T) {
	for seed := range 100 {
		g := lcg(seed)
		threads, words := 1+g.below(64), 1+g.below(4)
		c := newCache(t, threads, words)
		for range g.below(400) {
			c.Touch(g.below(threads), g.below(words), g.below(4) == 0)
		}
		a := g.below(words)
		misses := make([]int, threads)
		for range 10 * threads {
			u := g.below(threads)
			if c.Touch(u, a, false) {
				misses[u]++
			}
		}
		if got := slices.Max(misses); got > 1 {
			t.Errorf("seed %d: who reads a word that nobody writes misses %d times, want once at most", seed, got)
		}
	}
}
