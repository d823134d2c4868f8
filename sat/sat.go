// Package sat is layer 1, sums that stay where they are at an end: see shared/doc/01-sat.md.
package sat

import "math"

// Add is the sum of two, or the nearer end and true where it is beyond: P1.1.
func Add(a, b int64) (int64, bool) {
	// The room that b leaves is asked ahead of the sum, for the sum itself would wrap round.
	if b > 0 && a > math.MaxInt64-b {
		return math.MaxInt64, true
	}
	if b < 0 && a < math.MinInt64-b {
		return math.MinInt64, true
	}
	return a + b, false
}

// Sum is the sum of all, step by step from 0 on, and whether a step was beyond: P1.1.
func Sum(l []int64) (int64, bool) {
	var sum int64
	beyond := false
	for _, n := range l {
		next, over := Add(sum, n)
		sum = next
		// A later step may come back from the end; that one was beyond stays told.
		beyond = beyond || over
	}
	return sum, beyond
}

// Count is the sum of two counts, or the top and true where it is beyond: P1.1.
func Count(a, b uint64) (uint64, bool) {
	if a > math.MaxUint64-b {
		return math.MaxUint64, true
	}
	return a + b, false
}
