package wkb

import "plumb/api"

// How many bytes things have: some always, some at their least.
const (
	headBytes  = 1 + 4 // a geometry's order and kind
	countBytes = 4
	placeBytes = 8 + 8
	leastRing  = countBytes + placeBytes
	leastPoint = headBytes + placeBytes
	leastOther = headBytes + countBytes
)

// leastPart tells how few bytes a part of a geometry of that kind has at its least.
func leastPart(home int) int {
	if home == api.Points {
		return leastPoint
	}
	return leastOther
}

// isKind tells whether a number is that of a kind.
func isKind(n int) bool {
	return n >= api.APoint && n <= api.Collection
}

// fits tells whether a geometry of that kind may be a part of one of the kind home (0: it is a part of none).
func fits(home int, kind int) bool {
	switch home {
	case api.Points:
		return kind == api.APoint
	case api.Lines:
		return kind == api.ALine
	case api.Polygons:
		return kind == api.APolygon
	}
	return true
}

// allOnes is the exponent of patterns that are not finite, where it stands in them.
const allOnes = 0x7ff << 52

// lost is how an empty point's patterns are written.
const lost = allOnes | 1<<51

// isFinite tells whether a pattern is finite.
func isFinite(b uint64) bool {
	return b&allOnes != allOnes
}

// isNaN tells whether a pattern is no number.
func isNaN(b uint64) bool {
	return b&^(1<<63) > allOnes
}
