package mem_test

import (
	"math"
	"slices"
	"sync"
	"testing"

	"weighlock/api"
	"weighlock/mem"
)

const top = math.MaxUint32

// noAddresses are addresses that a memory of n words doesn't have; some of
// them would be within it if they were cut to 32 bits.
func noAddresses(n int) []int {
	return []int{-1, -2, n, n + 1, math.MinInt64, math.MaxInt64, math.MinInt32, math.MaxInt32, 1 << 32, -1 << 32, 1<<32 + n - 1}
}

func newMem(t *testing.T, homes ...int) *mem.Mem {
	t.Helper()
	m, e := mem.New(homes)
	if e != api.OK || m == nil {
		t.Fatalf("New(%v) = %v, %d, want a memory", homes, m, e)
	}
	return m
}

// holds asks every way of telling what the words are.
func holds(t *testing.T, m *mem.Mem, want ...uint32) {
	t.Helper()
	if got := m.Words(); !slices.Equal(got, want) {
		t.Errorf("Words() = %v, want %v", got, want)
	}
	if got := m.Len(); got != len(want) {
		t.Errorf("Len() = %d, want %d", got, len(want))
	}
	for a, w := range want {
		if got := m.Load(a); got != w {
			t.Errorf("Load(%d) = %d, want %d", a, got, w)
		}
	}
}

func TestNewP2_1(t *testing.T) {
	homes := []int{0, 7, 3, 0, 6}
	m := newMem(t, homes...)
	holds(t, m, 0, 0, 0, 0, 0)
	for a, want := range homes {
		if got := m.Home(a); got != want {
			t.Errorf("Home(%d) = %d, want %d", a, got, want)
		}
	}
}

func TestNewOfNoWordsP2_1(t *testing.T) {
	for _, homes := range [][]int{nil, {}} {
		m := newMem(t, homes...)
		holds(t, m)
		for _, a := range append(noAddresses(0), 0) {
			untouched(t, m, a)
		}
	}
}

func TestNewOfMostWordsP2_1(t *testing.T) {
	homes := make([]int, 4096)
	for a := range homes {
		homes[a] = a % 8
	}
	m := newMem(t, homes...)
	if got := m.Len(); got != 4096 {
		t.Fatalf("Len() = %d, want 4096", got)
	}
	for a := range homes {
		if got := m.Home(a); got != a%8 {
			t.Fatalf("Home(%d) = %d, want %d", a, got, a%8)
		}
		m.Store(a, uint32(a)+1)
	}
	for a, got := range m.Words() {
		if got != uint32(a)+1 || m.Load(a) != got {
			t.Fatalf("the word at %d is %d, want %d", a, got, a+1)
		}
	}
}

func TestNewRefusesP2_1(t *testing.T) {
	wrongLast := make([]int, 4096)
	wrongLast[4095] = 8
	bigAndWrong := make([]int, 4097)
	bigAndWrong[0] = 8
	bigAndWrong[4096] = -1
	for _, c := range []struct {
		name  string
		homes []int
		want  api.Errno
	}{
		{"one word too many", make([]int, 4097), api.ErrBig},
		{"many words too many", make([]int, 100000), api.ErrBig},
		{"too many, and wrong homes: the size is asked first", bigAndWrong, api.ErrBig},
		{"home 8", []int{8}, api.ErrArg},
		{"home -1", []int{-1}, api.ErrArg},
		{"the first home", []int{9, 0, 0}, api.ErrArg},
		{"a home in the middle", []int{0, -7, 0}, api.ErrArg},
		{"the last home", []int{0, 7, 8}, api.ErrArg},
		{"the last home of as many as may be", wrongLast, api.ErrArg},
		{"the least home", []int{math.MinInt64}, api.ErrArg},
		{"the greatest home", []int{math.MaxInt64}, api.ErrArg},
		{"a home that is 0 in 32 bits", []int{1 << 32}, api.ErrArg},
		{"a home that is 0 in 8 bits", []int{256}, api.ErrArg},
	} {
		if m, e := mem.New(c.homes); m != nil || e != c.want {
			t.Errorf("%s: New = %v, %d, want nil, %d", c.name, m, e, c.want)
		}
	}
}

func TestNewKeepsNoListP2_1(t *testing.T) {
	homes := []int{1, 2, 3}
	m := newMem(t, homes...)
	other, e := mem.New(homes)
	if e != api.OK || !slices.Equal(homes, []int{1, 2, 3}) {
		t.Fatalf("New answered %d, and its argument is %v", e, homes)
	}
	homes[0], homes[1], homes[2] = 7, 8, -1
	for a, want := range []int{1, 2, 3} {
		if got := other.Home(a); got != want {
			t.Errorf("Home(%d) = %d behind a change of what was handed in, want %d", a, got, want)
		}
	}
	m.Store(1, 5)
	holds(t, other, 0, 0, 0)
}

func TestNewKeepsNoRoomBehindTheListP2_1(t *testing.T) {
	room := []int{1, 2, 3, 4}
	m, e := mem.New(room[:2])
	if e != api.OK || m.Len() != 2 || m.Home(2) != 0 {
		t.Errorf("New of 2 of 4 = %d, with %d words", e, m.Len())
	}
	if !slices.Equal(room, []int{1, 2, 3, 4}) {
		t.Errorf("what was handed in is %v now", room)
	}
}

func TestWordsIsACopyP2_1(t *testing.T) {
	m := newMem(t, 0, 1, 2)
	m.Store(1, 9)
	got := m.Words()
	clear(got)
	_ = append(got[:1], 4, 4)
	holds(t, m, 0, 9, 0)
	before := m.Words()
	m.Store(1, 3)
	if !slices.Equal(before, []uint32{0, 9, 0}) {
		t.Errorf("what Words told is %v behind a store, want [0 9 0]", before)
	}
}

func TestLoadAndStoreP2_1(t *testing.T) {
	m := newMem(t, 0, 0, 0)
	for _, v := range []uint32{1, 0, 5, 1 << 31, top, top - 1, 0} {
		m.Store(1, v)
		holds(t, m, 0, v, 0)
	}
}

func TestSwapP2_1(t *testing.T) {
	m := newMem(t, 0, 0)
	was := uint32(0)
	for _, v := range []uint32{4, 4, top, 0, 1 << 31, 1} {
		if got := m.Swap(1, v); got != was {
			t.Errorf("Swap(1, %d) = %d, want %d", v, got, was)
		}
		holds(t, m, 0, v)
		was = v
	}
}

func TestCasP2_1(t *testing.T) {
	for _, c := range []struct {
		was, old, v uint32
		want        bool
	}{
		{0, 0, 1, true},
		{0, 1, 2, false},
		{1, 0, 2, false},
		{5, 5, 5, true},
		{5, 4, 5, false},
		{5, 6, 5, false},
		{top, top, 0, true},
		{top, 0, 1, false},
		{0, top, 1, false},
		{1 << 31, 0, 1, false},
		{1 << 31, 1 << 31, top, true},
	} {
		m := newMem(t, 0, 0, 0)
		m.Store(1, c.was)
		if got := m.Cas(1, c.old, c.v); got != c.want {
			t.Errorf("of a word that is %d: Cas(1, %d, %d) = %v, want %v", c.was, c.old, c.v, got, c.want)
		}
		if c.want {
			holds(t, m, 0, c.v, 0)
		} else {
			holds(t, m, 0, c.was, 0)
		}
	}
}

func TestAddP2_1(t *testing.T) {
	for _, c := range []struct{ was, d, want uint32 }{
		{0, 5, 5},
		{5, 0, 5},
		{7, 3, 10},
		{top, 1, 0},
		{1, top, 0},
		{6, top, 5},
		{top, top, top - 1},
		{top - 2, 5, 2},
		{1 << 31, 1 << 31, 0},
		{0, top, top},
	} {
		m := newMem(t, 0, 0, 0)
		m.Store(1, c.was)
		if got := m.Add(1, c.d); got != c.was {
			t.Errorf("of a word that is %d: Add(1, %d) = %d, want %d", c.was, c.d, got, c.was)
		}
		holds(t, m, 0, c.want, 0)
	}
}

func TestExampleP2_1(t *testing.T) {
	m := newMem(t, 0)
	if got := m.Add(0, 5); got != 0 {
		t.Errorf("Add(0, 5) = %d, want 0", got)
	}
	if !m.Cas(0, 5, 7) {
		t.Error("Cas(0, 5, 7) = false, want true")
	}
	if got := m.Swap(0, 1); got != 7 {
		t.Errorf("Swap(0, 1) = %d, want 7", got)
	}
	holds(t, m, 1)
}

// untouched asks all at an address that there isn't, and that nothing is done.
func untouched(t *testing.T, m *mem.Mem, a int) {
	t.Helper()
	before := m.Words()
	m.Store(a, 3)
	if got := m.Load(a); got != 0 {
		t.Errorf("Load(%d) = %d, want 0: there is no such address", a, got)
	}
	if got := m.Swap(a, 4); got != 0 {
		t.Errorf("Swap(%d, 4) = %d, want 0: there is no such address", a, got)
	}
	for _, old := range []uint32{0, 3, 4, 9} {
		if m.Cas(a, old, old) || m.Cas(a, old, 5) {
			t.Errorf("Cas(%d, %d, 5) = true, want false: there is no such address", a, old)
		}
	}
	for range 2 {
		if got := m.Add(a, 6); got != 0 {
			t.Errorf("Add(%d, 6) = %d, want 0: there is no such address", a, got)
		}
	}
	if got := m.Home(a); got != 0 {
		t.Errorf("Home(%d) = %d, want 0: there is no such address", a, got)
	}
	holds(t, m, before...)
}

func TestAddressesThatThereAreNotP2_1(t *testing.T) {
	for _, homes := range [][]int{{7}, {7, 7}, {1, 2, 3, 4, 5}} {
		m := newMem(t, homes...)
		for a := range homes {
			m.Store(a, 9)
		}
		for _, a := range noAddresses(len(homes)) {
			untouched(t, m, a)
		}
	}
}

// lcg gives numbers that look like any, the same ones each time.
type lcg uint64

func (g *lcg) below(n int) int {
	*g = *g*6364136223846793005 + 1442695040888963407
	return int(uint64(*g)>>33) % n
}

// value is mostly small, so that a Cas finds what it says often enough.
func (g *lcg) value() uint32 {
	if g.below(4) == 0 {
		return top - uint32(g.below(3))
	}
	return uint32(g.below(4))
}

// step does one access to the memory and to a plain list, and tells whether both answer the same.
func (g *lcg) step(m *mem.Mem, words []uint32) bool {
	a, v, old := g.below(len(words)+2)-1, g.value(), g.value()
	var was uint32
	there := a >= 0 && a < len(words)
	if there {
		was = words[a]
	}
	same, now := true, was
	switch g.below(5) {
	case 0:
		same = m.Load(a) == was
	case 1:
		m.Store(a, v)
		now = v
	case 2:
		same = m.Swap(a, v) == was
		now = v
	case 3:
		did := there && was == old
		same = m.Cas(a, old, v) == did
		if did {
			now = v
		}
	case 4:
		same = m.Add(a, v) == was
		now = uint32((uint64(was) + uint64(v)) % (1 << 32))
	}
	if there {
		words[a] = now
	}
	return same && slices.Equal(m.Words(), words)
}

func TestAnyAccessesP2_1(t *testing.T) {
	for seed := range 40 {
		g := lcg(seed)
		homes := make([]int, 1+g.below(6))
		for a := range homes {
			homes[a] = g.below(8)
		}
		m := newMem(t, homes...)
		words := make([]uint32, len(homes))
		for i := range 2000 {
			if !g.step(m, words) {
				t.Fatalf("seed %d, access %d: the memory is %v, want %v, or its answer is another", seed, i, m.Words(), words)
			}
		}
		for a, want := range homes {
			if got := m.Home(a); got != want {
				t.Errorf("Home(%d) = %d behind accesses, want %d", a, got, want)
			}
		}
	}
}

// TestNobodyIsBetweenP2_1 lets several ask for the same words at one time: no
// Add, Swap or Cas may be lost, and no value be told twice.
func TestNobodyIsBetweenP2_1(t *testing.T) {
	const workers, times = 8, 5000
	m := newMem(t, 0, 0, 0)
	var added, swapped [workers][]uint32
	var group sync.WaitGroup
	for w := range workers {
		group.Go(func() {
			for i := range times {
				added[w] = append(added[w], m.Add(0, 1))
				swapped[w] = append(swapped[w], m.Swap(1, uint32(w*times+i+1)))
				for v := m.Load(2); !m.Cas(2, v, v+2); v = m.Load(2) {
				}
			}
		})
	}
	group.Wait()
	last := m.Load(1)
	holds(t, m, workers*times, last, 2*workers*times)
	onceEach(t, "Add", slices.Concat(added[:]...))
	onceEach(t, "Swap", append(slices.Concat(swapped[:]...), last))
}

// onceEach asks that the values are all numbers from 0 on, each of them once.
func onceEach(t *testing.T, name string, values []uint32) {
	t.Helper()
	slices.Sort(values)
	for i, got := range values {
		if got != uint32(i) {
			t.Fatalf("%s told %d where %d is the next one: one was told twice, or never", name, got, i)
		}
	}
}
