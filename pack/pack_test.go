package pack_test

import (
	"math"
	"slices"
	"testing"

	"weighlock/pack"
)

const top = 1<<30 - 1

// edgeWords are words at the edges of each part, and one bit alone of each.
func edgeWords() []uint32 {
	words := []uint32{0, 1, 2, 3, 4, 13, 14, 15, 0x55555555, 0xaaaaaaaa, math.MaxUint32 - 3, math.MaxUint32}
	for i := range 32 {
		words = append(words, 1<<i)
	}
	return words
}

func TestPackP1_1(t *testing.T) {
	for _, c := range []struct {
		cluster        int
		waits, spliced bool
		want           uint32
	}{
		{3, true, false, 14}, // the chapter's example
		{0, false, false, 0},
		{0, false, true, 1},
		{0, true, false, 2},
		{0, true, true, 3},
		{1, false, false, 4},
		{7, false, true, 29},
		{top - 1, false, false, math.MaxUint32 - 7},
		{top, false, false, math.MaxUint32 - 3},
		{top, false, true, math.MaxUint32 - 2},
		{top, true, false, math.MaxUint32 - 1},
		{top, true, true, math.MaxUint32},
	} {
		if got := pack.Pack(c.cluster, c.waits, c.spliced); got != c.want {
			t.Errorf("Pack(%d, %v, %v) = %d, want %d", c.cluster, c.waits, c.spliced, got, c.want)
		}
	}
}

func TestPackHoldsClusterWithinP1_1(t *testing.T) {
	for _, cluster := range []int{-1, -2, -top, -top - 1, math.MinInt32, -1 << 32, -1<<32 + 5, math.MinInt64, math.MinInt64 + 1} {
		if got := pack.Pack(cluster, true, false); got != 2 {
			t.Errorf("Pack(%d, true, false) = %d, want 2", cluster, got)
		}
	}
	for _, cluster := range []int{top + 1, top + 2, math.MaxInt32, 1 << 31, 1 << 32, 1<<32 + 5, 1 << 62, math.MaxInt64} {
		if got := pack.Pack(cluster, false, true); got != math.MaxUint32-2 {
			t.Errorf("Pack(%d, false, true) = %d, want %d", cluster, got, uint32(math.MaxUint32-2))
		}
	}
}

func TestPartsP1_1(t *testing.T) {
	for _, c := range []struct {
		w              uint32
		cluster        int
		waits, spliced bool
	}{
		{0, 0, false, false},
		{1, 0, false, true},
		{2, 0, true, false},
		{3, 0, true, true},
		{4, 1, false, false},
		{14, 3, true, false},
		{29, 7, false, true},
		{1 << 31, 1 << 29, false, false},
		{math.MaxUint32 - 3, top, false, false},
		{math.MaxUint32, top, true, true},
	} {
		if got := pack.Cluster(c.w); got != c.cluster {
			t.Errorf("Cluster(%d) = %d, want %d", c.w, got, c.cluster)
		}
		if got := pack.Waits(c.w); got != c.waits {
			t.Errorf("Waits(%d) = %v, want %v", c.w, got, c.waits)
		}
		if got := pack.Spliced(c.w); got != c.spliced {
			t.Errorf("Spliced(%d) = %v, want %v", c.w, got, c.spliced)
		}
	}
}

func TestPartsGiveTheWordBackP1_1(t *testing.T) {
	for _, w := range edgeWords() {
		if got := pack.Pack(pack.Cluster(w), pack.Waits(w), pack.Spliced(w)); got != w {
			t.Errorf("%d packed again is %d", w, got)
		}
	}
}

func TestFreeP1_1(t *testing.T) {
	for _, w := range edgeWords() {
		want := pack.Pack(pack.Cluster(w), false, pack.Spliced(w))
		if got := pack.Free(w); got != want {
			t.Errorf("Free(%d) = %d, want %d", w, got, want)
		}
	}
	if got := pack.Free(15); got != 13 {
		t.Errorf("Free(15) = %d, want 13", got)
	}
	if got := pack.Free(13); got != 13 {
		t.Errorf("Free(13) = %d, want 13: it is free already", got)
	}
}

func TestSpliceP1_1(t *testing.T) {
	for _, w := range edgeWords() {
		want := pack.Pack(pack.Cluster(w), pack.Waits(w), true)
		if got := pack.Splice(w); got != want {
			t.Errorf("Splice(%d) = %d, want %d", w, got, want)
		}
	}
	if got := pack.Splice(14); got != 15 {
		t.Errorf("Splice(14) = %d, want 15", got)
	}
	if got := pack.Splice(15); got != 15 {
		t.Errorf("Splice(15) = %d, want 15: it is spliced already", got)
	}
}

func TestApartP1_1(t *testing.T) {
	for _, c := range []struct{ a, b, want uint32 }{
		{0, 0, 0},
		{9, 4, 5},
		{4, 9, math.MaxUint32 - 4},
		{0, 1, math.MaxUint32},
		{0, math.MaxUint32, 1},
		{math.MaxUint32, 0, math.MaxUint32},
		{math.MaxUint32, math.MaxUint32, 0},
		{2, math.MaxUint32 - 2, 5},
		{1 << 31, 0, 1 << 31},
		{0, 1 << 31, 1 << 31},
	} {
		if got := pack.Apart(c.a, c.b); got != c.want {
			t.Errorf("Apart(%d, %d) = %d, want %d", c.a, c.b, got, c.want)
		}
	}
}

func TestSlotP1_1(t *testing.T) {
	for _, c := range []struct {
		n          uint32
		size, want int
	}{
		{0, 1, 0},
		{9, 1, 0},
		{5, 2, 1},
		{13, 4, 1},
		{8, 8, 0},
		{31, 16, 15},
		{33, 32, 1},
		{63, 64, 63},
		{64, 64, 0},
		{1 << 31, 64, 0},
		{math.MaxUint32, 64, 63},
		{math.MaxUint32, 8, 7},
	} {
		if got := pack.Slot(c.n, c.size); got != c.want {
			t.Errorf("Slot(%d, %d) = %d, want %d", c.n, c.size, got, c.want)
		}
	}
}

// TestSlotOfWrongSizesP1_1 asks with counters that are no multiple of the
// wrong size, so that a plain modulo would not be 0.
func TestSlotOfWrongSizesP1_1(t *testing.T) {
	wrong := []int{0, -1, -2, -4, -64, 65, 96, 127, 128, 256, 1 << 31, 1 << 32, 1<<32 + 8, 1 << 62, math.MaxInt64, math.MinInt64, math.MinInt64 + 8}
	for size := range 65 {
		if !slices.Contains([]int{1, 2, 4, 8, 16, 32, 64}, size) {
			wrong = append(wrong, size)
		}
	}
	for _, size := range wrong {
		for _, n := range []uint32{1, 2, 13, 61, 127, 1<<31 + 1, math.MaxUint32} {
			if got := pack.Slot(n, size); got != 0 {
				t.Errorf("Slot(%d, %d) = %d, want 0: it is no size", n, size, got)
			}
		}
	}
}

func TestSizesP1_1(t *testing.T) {
	want := []int{1, 2, 4, 8, 16, 32, 64}
	got := pack.Sizes()
	if !slices.Equal(got, want) {
		t.Fatalf("Sizes() = %v, want %v", got, want)
	}
	clear(got)
	if again := pack.Sizes(); !slices.Equal(again, want) {
		t.Errorf("Sizes() = %v after an answer was written into, want %v", again, want)
	}
}

func TestSlotGoesRoundP1_2(t *testing.T) {
	starts := []uint32{0, 1, 62, 63, 64, 1<<16 - 2, 1<<31 - 3, math.MaxUint32 - 130, math.MaxUint32}
	for _, size := range []int{1, 2, 4, 8, 16, 32, 64} {
		for _, start := range starts {
			for i := range uint32(200) {
				n := start + i
				want := (pack.Slot(n, size) + 1) % size
				if got := pack.Slot(n+1, size); got != want {
					t.Fatalf("Slot(%d, %d) = %d, want %d: the one behind the slot of %d", n+1, size, got, want, n)
				}
			}
		}
		if got := pack.Slot(math.MaxUint32, size); got != size-1 {
			t.Errorf("Slot(2^32 - 1, %d) = %d, want %d: the last slot", size, got, size-1)
		}
	}
}
