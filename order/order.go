// Package order: points in the one order that tells every two of them apart, by their patterns: see shared/doc/24-ring.md,
// Words.
package order

import (
	"cmp"

	"plumb/api"
)

// Points compares two points by X, then Y, each in the order of patterns (any patterns): -1, 0 or 1.
func Points(p api.Point, q api.Point) int {
	return cmp.Or(cmp.Compare(key(p.X), key(q.X)), cmp.Compare(key(p.Y), key(q.Y)))
}

// key gives a number for a pattern, in the order of patterns.
func key(b uint64) uint64 {
	const sign = 1 << 63
	if b&sign != 0 {
		return ^b
	}
	return b | sign
}
