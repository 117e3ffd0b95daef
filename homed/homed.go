// Package homed is what all locks do alike (layers 10 to 16): it seats their
// contexts, each of which has a home, and does steps of these.
package homed

import (
	"slices"

	"weighlock/api"
	"weighlock/seat"
)

// Seats is the seats of contexts with these homes. ErrArg: they aren't from 1
// to MaxThreads numbers from 0 to MaxNodes - 1.
func Seats(homes []int, timed, probed bool) (*seat.Seats, api.Errno) {
	outside := func(home int) bool { return home < 0 || home >= api.MaxNodes }
	if slices.ContainsFunc(homes, outside) {
		return nil, api.ErrArg
	}
	return seat.New(len(homes), timed, probed)
}

// Calls is what a step of each call does, of a context by a thread.
type Calls struct{ Lock, Unlock, Probe func(t, as int) api.Did }

// Step does a step of what is under way in a context, and ends what that comes
// to. Nothing is done where nothing is under way.
func Step(s *seat.Seats, t, as int, calls Calls) api.Did {
	var did api.Did
	switch s.State(t) {
	case api.Locking:
		did = calls.Lock(t, as)
	case api.Unlocking:
		did = calls.Unlock(t, as)
	case api.Probing:
		did = calls.Probe(t, as)
	}
	s.End(t, did.Event)
	return did
}
