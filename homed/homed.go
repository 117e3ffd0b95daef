// Package homed seats a lock's contexts, each of which has a home: all locks do
// it alike (layers 10 to 16).
package homed

import (
	"slices"

	"weighlock/api"
	"weighlock/seat"
)

// Seats is the seats of contexts with these homes. ErrArg: they aren't from 1
// to MaxThreads numbers from 0 to MaxNodes - 1.
func Seats(homes []int, timed, probed bool) (*seat.Seats, api.Errno) {
	outside := func(home int) bool { return home < 0 || home >= api.MaxNodes }
	if slices.ContainsFunc(homes, outside) {
		return nil, api.ErrArg
	}
	return seat.New(len(homes), timed, probed)
}
