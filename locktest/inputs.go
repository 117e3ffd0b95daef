package locktest

import (
	"math"
	"slices"

	"weighlock/api"
)

// Numbers tells numbers that look any, but are the same each time.
type Numbers uint64

// Below is one from 0 to n - 1.
func (r *Numbers) Below(n int) int {
	*r = *r*6364136223846793005 + 1442695040888963407
	return int(uint64(*r) >> 33 % uint64(n))
}

// Of is one of these.
func (r *Numbers) Of(all []int) int { return all[r.Below(len(all))] }

// Starts are where numbers go round soon, late, or in between.
func Starts() []uint32 {
	return []uint32{0, 1, 2, 7, 63, 64, 1<<31 - 2, 1<<31 - 1, 1 << 31, 1<<32 - 66, 1<<32 - 5, 1<<32 - 4, 1<<32 - 3, 1<<32 - 2, 1<<32 - 1}
}

// States are what contexts do in turn; Probing comes last.
func States(probed bool) []int {
	states := []int{api.Idle, api.Locking, api.Holding, api.Unlocking}
	if probed {
		states = append(states, api.Probing)
	}
	return states
}

// Homes is homes of so many contexts.
func Homes(n, first int) []int {
	homes := make([]int, n)
	for i := range homes {
		homes[i] = (first + 3*i) % api.MaxNodes
	}
	return homes
}

// Within is homes of so many contexts that are on these nodes by turns.
func Within(n, first int, nodes []int) []int {
	homes := make([]int, n)
	for i := range homes {
		homes[i] = nodes[(first+i)%len(nodes)]
	}
	return homes
}

// Nodes are those that the contexts of a lock of two levels are on by turns: all
// on one, on few, some more often than others, and on all.
func Nodes() [][]int {
	return [][]int{{0}, {7}, {0, 7}, {2, 2, 5, 2, 6}, {0, 1, 2, 3, 4, 5, 6, 7}}
}

// NoHomes are no homes of a lock's contexts.
func NoHomes() [][]int {
	wrong := [][]int{nil, {}}
	for _, n := range []int{65, 66, 128, 256, 257, 4097} {
		wrong = append(wrong, make([]int, n))
	}
	for _, h := range []int{-1, 8, -8, 9, 15, 16, 64, 255, 256, -256, 1 << 32, -1 << 32, 1<<32 + 7, 1<<32 - 1, math.MinInt64, math.MaxInt64, math.MinInt32, math.MaxInt32} {
		wrong = append(wrong, []int{h}, []int{h, 0}, []int{0, h}, []int{7, h, 7})
		for _, n := range []int{64, 65} {
			last := make([]int, n)
			last[n-1] = h
			first := slices.Clone(last)
			slices.Reverse(first)
			wrong = append(wrong, first, last)
		}
	}
	return wrong
}

// NoContexts are numbers of no context where there are n; some of them would be
// one if they were cut to fewer bits.
func NoContexts(n int) []int {
	return []int{-1, -2, -n, -n - 1, -64, n, n + 1, n + 64, 2 * n, math.MinInt64, math.MaxInt64, math.MinInt32, math.MaxInt32, 1 << 32, 1<<32 + n - 1, -1 << 32, 1<<32 - 1, 1 << 16, 1 << 8, 64 << 8}
}

// Deadlines are those that aren't taken, or just by a lock that takes some.
func Deadlines() []int {
	return []int{0, 1, 2, 20, -2, -3, math.MinInt64, math.MaxInt64, 1<<32 - 1, -1 - 1<<32, 255}
}

// Others are values of which each differs from v, some in one bit alone.
func Others(v uint32) []uint32 {
	values := []uint32{v + 1, v - 1, ^v}
	for bit := range 32 {
		values = append(values, v^1<<bit)
	}
	return values
}
