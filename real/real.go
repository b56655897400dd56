// Package real is layer 1: numbers of binary64 in one order, with all their
// edges. All of it is told by their bits, so that no number and the two
// noughts have their places too, where Go's own comparisons have none.
package real

import "math"

const (
	signBit      uint64 = 1 << 63
	infinite     uint64 = 0x7ff << 52 // the magnitude of the infinities; every NaN has a greater one
	leastFull    uint64 = 1 << 52     // the magnitude of 2^-1022, the least one with all its digits
	exponentStep uint64 = 1 << 52     // what a magnitude loses when its exponent falls by one

	highRank = int64(infinite) // the rank of +infinity
	lowRank  = -highRank - 1   // the rank of -infinity
	noneRank = math.MaxInt64   // the rank of no number
)

// magnitude is the whole number that the lowest 63 bits make; among numbers
// of one sign it grows as they move away from 0.
func magnitude(x float64) uint64 { return math.Float64bits(x) &^ signBit }

func sign(x float64) uint64 { return math.Float64bits(x) & signBit }

func isNone(x float64) bool { return magnitude(x) > infinite }

// Rank tells the rank of x.
func Rank(x float64) int64 {
	m := int64(magnitude(x))
	switch {
	case isNone(x):
		return noneRank
	case sign(x) != 0:
		return -m - 1
	}
	return m
}

// Of tells the number with that rank.
func Of(rank int64) float64 {
	switch {
	case rank > highRank:
		return math.NaN()
	case rank < lowRank:
		return math.Inf(-1)
	case rank < 0:
		return math.Float64frombits(signBit | uint64(-(rank + 1)))
	}
	return math.Float64frombits(uint64(rank))
}

// Steps tells by how much the ranks of a and b differ.
func Steps(a, b float64) uint64 {
	low, high := Rank(a), Rank(b)
	if high < low {
		low, high = high, low
	}
	// The difference may be beyond int64, but is always below 2^64: taken
	// modulo that it comes out right.
	return uint64(high) - uint64(low)
}

// Less tells whether a is ahead of b in the order.
func Less(a, b float64) bool { return Rank(a) < Rank(b) }

// Min tells the first one of l in the order; of nothing no number.
func Min(l []float64) float64 {
	first := math.NaN() // behind all others, so any number takes its place
	for _, x := range l {
		if Less(x, first) {
			first = x
		}
	}
	return first
}

// Max tells the last one of l in the order; of nothing no number.
func Max(l []float64) float64 {
	if len(l) == 0 {
		return math.NaN()
	}
	last := l[0]
	for _, x := range l[1:] {
		if Less(last, x) {
			last = x
		}
	}
	return last
}

// Clamp brings x between low and high; where those are the wrong way round,
// low holds.
func Clamp(x, low, high float64) float64 {
	switch {
	case Less(x, low) || Less(high, low):
		return low
	case Less(high, x):
		return high
	}
	return x
}

// Fade halves x n times, each time to the nearest number.
func Fade(x float64, n int) float64 {
	m := magnitude(x)
	if m >= infinite {
		return x
	}
	// A nought stays one: without that bound a great n would take for ever.
	for ; n > 0 && m > 0; n-- {
		m = half(m)
	}
	return math.Float64frombits(sign(x) | m)
}

// half halves a magnitude below that of the infinities.
func half(m uint64) uint64 {
	if m >= leastFull+exponentStep {
		return m - exponentStep
	}
	// Here a magnitude counts the least numbers above 0 that it is made of,
	// so the half of an odd one lies midway: it goes to the even neighbour.
	h := m / 2
	if m%2 == 1 {
		h += h % 2
	}
	return h
}

// Class tells of which kind x is, from 1 (-infinity) to 8 (+infinity); 0 is no
// number.
func Class(x float64) int {
	if isNone(x) {
		return 0
	}
	c := classBelow(magnitude(x))
	if sign(x) == 0 {
		return 9 - c // the classes above 0 are those below it, seen in a mirror
	}
	return c
}

// classBelow is the class of the number of this magnitude whose sign is set.
func classBelow(m uint64) int {
	switch {
	case m == infinite:
		return 1
	case m >= leastFull:
		return 2
	case m > 0:
		return 3
	}
	return 4
}
