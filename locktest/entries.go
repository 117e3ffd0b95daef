package locktest

import (
	"math"
	"slices"
	"strings"

	"weighlock/api"
	"weighlock/trace"
)

// Of is an entry of a kind and a thread.
func Of(kind, t int) trace.Entry { return trace.Entry{Kind: kind, Thread: t} }

// Read are the entries of words like "enq 0, grant 0 lead", at the tick 0.
func Read(t T, words string) []trace.Entry {
	t.Helper()
	if words == "" {
		return nil
	}
	var lines strings.Builder
	for _, entry := range strings.Split(words, ", ") {
		entry, leads := strings.CutSuffix(entry, " lead")
		lines.WriteString(entry + " 0")
		if leads {
			lines.WriteString(" lead")
		}
		lines.WriteString("\n")
	}
	l, _, e := trace.Parse(lines.String())
	if e != api.OK {
		t.Fatalf("%q are no entries", words)
	}
	return l
}

// Each are the entries of each kind, of all these threads.
func Each(threads ...int) []trace.Entry {
	var l []trace.Entry
	for _, t := range threads {
		for kind := trace.Call; kind <= trace.Refuse; kind++ {
			l = append(l, Of(kind, t))
		}
	}
	return l
}

// NoEntries are numbers of no kind of entries; some of them would be one if they
// were cut to fewer bits.
func NoEntries() []int {
	kinds := []int{0, -1, -4, 9, 10, 12, 16, 255, math.MinInt64, math.MaxInt64, math.MinInt32, math.MaxInt32}
	for kind := range 9 {
		kinds = append(kinds, kind+1<<8, kind+1<<16, kind+1<<32, kind-1<<32, kind+math.MinInt64, -kind)
	}
	return kinds
}

// Ticks are any, of which some may not be in a line.
func Ticks() []int {
	return []int{0, 1, -1, 7, 1 << 32, 1 << 40, 1<<40 + 1, -1 << 40, math.MinInt64, math.MaxInt64}
}

// Changed are entries, of which one or two aren't any more what, or where, they
// were.
func Changed(r *Numbers, l []trace.Entry) []trace.Entry {
	l = slices.Clone(l)
	i, j := r.Below(len(l)), r.Below(len(l))
	switch r.Below(4) {
	case 0:
		l[i], l[j] = l[j], l[i]
	case 1:
		l[i].Thread, l[j].Thread = l[j].Thread, l[i].Thread
	case 2:
		return slices.Delete(l, i, i+1)
	case 3:
		return slices.Insert(l, i, l[j])
	}
	return l
}
