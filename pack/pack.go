// Package pack is layer 1: what one word holds: see shared/doc/01-pack.md.
package pack

// The bits of a word, from the lowest one up.
const (
	splicedBit uint32 = 1 << iota
	waitsBit
	clusterUnit // what one cluster counts in a word: all bits from here up are the cluster's
)

const (
	maxCluster = 1<<30 - 1
	maxSize    = 64
)

// Pack is a packed word.
func Pack(cluster int, waits, spliced bool) uint32 {
	// Held within its bounds first: a wider int would go round in 32 bits.
	w := uint32(min(max(cluster, 0), maxCluster)) * clusterUnit
	if waits {
		w |= waitsBit
	}
	if spliced {
		w |= splicedBit
	}
	return w
}

// Cluster is its cluster.
func Cluster(w uint32) int { return int(w / clusterUnit) }

// Waits tells whether its successor does.
func Waits(w uint32) bool { return w&waitsBit != 0 }

// Spliced tells whether it is.
func Spliced(w uint32) bool { return w&splicedBit != 0 }

// Free is it, but that it doesn't wait.
func Free(w uint32) uint32 { return w &^ waitsBit }

// Splice is it, but that it is spliced.
func Splice(w uint32) uint32 { return w | splicedBit }

// Apart is how far two counters are.
func Apart(a, b uint32) uint32 { return a - b }

// Slot is a counter's slot.
func Slot(n uint32, size int) int {
	if !isSize(size) {
		return 0
	}
	return int(n % uint32(size))
}

// isSize asks for a power of two because only such a size divides 2^32: with
// another one the slots would jump where a counter goes round.
func isSize(size int) bool {
	return size >= 1 && size <= maxSize && size&(size-1) == 0
}

// Sizes is how many slots there may be.
func Sizes() []int {
	var sizes []int
	for size := 1; size <= maxSize; size *= 2 {
		sizes = append(sizes, size)
	}
	return sizes
}
