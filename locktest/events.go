package locktest

import (
	"math"

	"weighlock/api"
	"weighlock/event"
)

// Pick is a Pick of a thread.
func Pick(t int) event.Event { return event.Event{Kind: event.Pick, Thread: t} }

// Tick is one of the clock.
func Tick() event.Event { return event.Event{Kind: event.Tick} }

// Call is a Call of a thread, for ever.
func Call(t int) event.Event { return CallFor(t, -1) }

// CallFor is one with a Wait.
func CallFor(t, wait int) event.Event {
	return event.Event{Kind: event.Call, Thread: t, Wait: wait}
}

// End is an End of a thread.
func End(t int) event.Event { return event.Event{Kind: event.End, Thread: t} }

// Next is what a thread of these does next, in whatever state it is: it calls
// for the lock, for ever, calls to unlock, or is picked.
func Next(threads interface{ State(t int) int }, t int) event.Event {
	switch threads.State(t) {
	case api.Idle:
		return Call(t)
	case api.Holding:
		return End(t)
	}
	return Pick(t)
}

// AnyEvent is any event of one of so many threads, now and then a wrong one.
func AnyEvent(r *Numbers, n int) event.Event {
	e := Pick(r.Below(n))
	switch r.Below(16) {
	case 0, 1, 2:
		e.Kind, e.Wait = event.Call, AnyWait(r)
	case 3, 4:
		e.Kind = event.End
	case 5, 6:
		e = Tick()
	}
	if r.Below(32) == 0 {
		e.Thread = r.Of(NoContexts(n))
	}
	if r.Below(32) == 0 {
		e.Kind = r.Of(NoEvents())
	}
	if r.Below(32) == 0 {
		e.Wait = r.Of(Waits())
	}
	return e
}

// AnyWait is a Wait: for ever, or some steps long.
func AnyWait(r *Numbers) int {
	if r.Below(3) > 0 {
		return -1
	}
	return r.Below(12)
}

// Waits are those of which most are near a bound.
func Waits() []int {
	return []int{-1, 0, 1, 2, 255, 256, 1<<30 - 1, 1 << 30, 1<<30 + 1, 1 << 31, 1 << 32, 1<<32 + 1, 1<<40 - 1, 1 << 40, math.MaxInt64 - 1, math.MaxInt64,
		-2, -3, -255, -1 << 30, -1 << 31, -1 << 32, 1 - 1<<32, math.MinInt64, math.MinInt64 + 1}
}

// NoEvents are numbers of no kind of events; some of them would be one if they
// were cut to fewer bits.
func NoEvents() []int {
	return []int{0, 5, 6, 7, 8, 9, 12, -1, -2, -3, -4, 64, 255, 256, 257, 258, 259, 260, 1<<16 + 1, 1 << 32, 1<<32 + 1, 1<<32 + 2, 1<<32 + 3, 1<<32 + 4, 2 - 1<<32, math.MinInt64, math.MinInt64 + 2, math.MaxInt64}
}
