package locktest

import (
	"math"

	"weighlock/api"
)

// Plain are configurations of contexts with these homes, one of each kind, of
// which each differs in all that its kind looks at from the zero value.
func Plain(homes []int) []api.Config {
	size := 1
	for size < len(homes) {
		size *= 2
	}
	return []api.Config{
		{Kind: api.Ticket, Homes: homes, Start: 9},
		{Kind: api.Slots, Homes: homes, Start: 1<<32 - 2, Slots: size},
		{Kind: api.Clh, Homes: homes},
		{Kind: api.Mcs, Homes: homes},
		{Kind: api.Abort, Homes: homes, Pool: 3},
		{Kind: api.Hier, Homes: homes},
		{Kind: api.Cohort, Homes: homes, Global: api.Mcs, Local: api.Clh, Budget: 2},
	}
}

// Many are configurations of contexts with these homes with much of what each
// kind looks at.
func Many(homes []int) []api.Config {
	var cs []api.Config
	for _, start := range Starts() {
		cs = append(cs, api.Config{Kind: api.Ticket, Homes: homes, Start: start})
		for size := 1; size <= 64; size *= 2 {
			if size >= len(homes) {
				cs = append(cs, api.Config{Kind: api.Slots, Homes: homes, Start: start, Slots: size})
			}
		}
	}
	for pool := 1; pool <= api.MaxPool; pool++ {
		cs = append(cs, api.Config{Kind: api.Abort, Homes: homes, Pool: pool})
	}
	for _, budget := range []int{1, 2, 5, 999, 1000} {
		for _, global := range []int{api.Ticket, api.Mcs} {
			for _, local := range []int{api.Ticket, api.Clh, api.Mcs} {
				cs = append(cs, api.Config{Kind: api.Cohort, Homes: homes, Global: global, Local: local, Budget: budget})
			}
		}
	}
	return append(cs, api.Config{Kind: api.Clh, Homes: homes}, api.Config{Kind: api.Mcs, Homes: homes}, api.Config{Kind: api.Hier, Homes: homes})
}

// Besides is a configuration in which all that its kind doesn't look at is this.
func Besides(c api.Config, v int) api.Config {
	if c.Kind != api.Ticket && c.Kind != api.Slots {
		c.Start = uint32(v)
	}
	if c.Kind != api.Slots {
		c.Slots = v
	}
	if c.Kind != api.Abort {
		c.Pool = v
	}
	if c.Kind != api.Cohort {
		c.Budget, c.Global, c.Local = v, v, v
	}
	return c
}

// Far are numbers that are nothing: no kind, no size, no budget; some of them
// would be one if they were cut to fewer bits.
func Far() []int {
	return []int{0, -1, -2, -7, -8, 1 << 32, 1<<32 + 1, 1<<32 + 4, -1 << 32, 5 - 1<<32, 1<<32 - 1, 1<<16 + 4, math.MinInt64, math.MinInt64 + 3, math.MaxInt64, math.MinInt32, math.MaxInt32}
}

// NoKinds are numbers of no kind.
func NoKinds() []int { return append(Far(), 8, 9, 15, 16, 64, 255, 256, 257, 263) }

// Crowds are homes of one, of some, and of as many as there may be.
func Crowds() [][]int {
	return [][]int{{0}, {7}, {1, 2}, {6, 6, 6}, {3, 0, 3, 7, 3}, Homes(17, 4), Homes(63, 1), Homes(64, 5)}
}

// WrongConfigs are configurations of contexts with these homes, each of a right kind, with
// what its chapter refuses.
func WrongConfigs(homes []int) []api.Config {
	var cs []api.Config
	for _, v := range append(Far(), 3, 5, 6, 12, 63, 65, 128) {
		cs = append(cs, api.Config{Kind: api.Slots, Homes: homes, Slots: v})
	}
	for size := 1; size < len(homes); size *= 2 {
		cs = append(cs, api.Config{Kind: api.Slots, Homes: homes, Slots: size})
	}
	for _, v := range append(Far(), 9, 10, 16, 64) {
		cs = append(cs, api.Config{Kind: api.Abort, Homes: homes, Pool: v})
	}
	for _, v := range append(NoKinds(), api.Slots, api.Clh, api.Abort, api.Hier, api.Cohort) {
		cs = append(cs, api.Config{Kind: api.Cohort, Homes: homes, Global: v, Local: api.Mcs, Budget: 1})
	}
	for _, v := range append(NoKinds(), api.Slots, api.Abort, api.Hier, api.Cohort) {
		cs = append(cs, api.Config{Kind: api.Cohort, Homes: homes, Global: api.Mcs, Local: v, Budget: 1})
	}
	for _, v := range append(Far(), 1001, 1024) {
		cs = append(cs, api.Config{Kind: api.Cohort, Homes: homes, Global: api.Mcs, Local: api.Clh, Budget: v})
	}
	return cs
}
