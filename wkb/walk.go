package wkb

import (
	"plumb/api"
	"plumb/octet"
)

// read gives the tree that bytes are, and the orders of its geometries as they begin.
func read(b []byte, maxDepth int, maxBytes int) (g api.Geom, orders []bool, err error) {
	limit := max(0, min(api.MaxText, maxBytes))
	if len(b) > limit {
		return api.Geom{}, nil, api.Wrap(limit, api.ErrSize)
	}
	defer func() { err = caught(recover(), err) }()
	w := walk{from: octet.NewReader(b), depth: min(api.MaxDepth, maxDepth)}
	root := w.geometry(0, 1)
	if w.from.Left() > 0 {
		giveUp(w.from.At(), api.ErrTrail)
	}
	return root, w.orders, nil
}

// flaw is what a walk gives up with, however deep it is in the bytes: the first thing that is wrong, and its place.
type flaw struct {
	at   int
	code api.Errno
}

// giveUp ends a walk.
func giveUp(at int, code api.Errno) {
	panic(flaw{at, code})
}

// caught gives a walk's error, where v is what recover found as it ended. Any other panic is a fault of the program's
// own, which no error tells, and goes on.
func caught(v any, err error) error {
	switch v := v.(type) {
	case nil:
		return err
	case flaw:
		return api.Wrap(v.at, v.code)
	}
	panic(v)
}

// walk goes over bytes from the front.
type walk struct {
	from   *octet.Reader
	depth  int    // the greatest level that is taken
	orders []bool // those of all geometries that have begun
}

// sure gives on what was read, or gives up, if the bytes ended too early for it.
func sure[T any](w *walk, v T) T {
	if err := w.from.Err(); err != nil {
		giveUp(api.Place(err), api.Code(err))
	}
	return v
}

// geometry reads a geometry of that level, a part of one of the kind home.
func (w *walk) geometry(home int, level int) api.Geom {
	at := w.from.At()
	little := w.order()
	kind := w.kind(home, little)
	if level > w.depth {
		giveUp(at, api.ErrDepth)
	}
	w.orders = append(w.orders, little)
	g := api.Geom{Kind: kind}
	switch kind {
	case api.APoint:
		g.Line = w.spot(little)
	case api.ALine:
		g.Line = w.line(little)
	case api.APolygon:
		n := w.count(leastRing, little)
		g.Rings = members(n, func() []api.Point { return w.ring(little) })
	default:
		n := w.count(leastPart(kind), little)
		g.Parts = members(n, func() api.Geom { return w.geometry(kind, level+1) })
	}
	return g
}

// order reads a geometry's order: whether the lower byte is the first.
func (w *walk) order() bool {
	at := w.from.At()
	order := sure(w, w.from.Byte())
	if order > 1 {
		giveUp(at, api.ErrOrder)
	}
	return order == 1
}

// kind reads the kind of a part of one of the kind home.
func (w *walk) kind(home int, little bool) int {
	at := w.from.At()
	kind := int(sure(w, w.from.Word32(little)))
	if !isKind(kind) {
		giveUp(at, api.ErrType)
	}
	if !fits(home, kind) {
		giveUp(at, api.ErrMember)
	}
	return kind
}

// count reads how many things follow, each of so many bytes at its least.
func (w *walk) count(least int, little bool) int {
	at := w.from.At()
	n := sure(w, w.from.Word32(little))
	if uint64(n)*uint64(least) > uint64(w.from.Left()) {
		giveUp(at, api.ErrCount)
	}
	return int(n)
}

// members reads so many things, one behind the other. Their list grows as they come: of counts within counts each may
// ask for nearly all bytes that are left, and memory for all of these would be many times too much.
func members[T any](n int, next func() T) []T {
	var out []T
	for range n {
		out = append(out, next())
	}
	return out
}

// line reads how many points follow, and these.
func (w *walk) line(little bool) []api.Point {
	n := w.count(placeBytes, little)
	return members(n, func() api.Point { return w.place(little) })
}

// ring reads a ring.
func (w *walk) ring(little bool) []api.Point {
	at := w.from.At()
	ring := w.line(little)
	if len(ring) == 0 {
		giveUp(at, api.ErrRing)
	}
	return ring
}

// spot reads where a point is; an empty one is nowhere.
func (w *walk) spot(little bool) []api.Point {
	at := w.from.At()
	p := w.patterns(little)
	if isNaN(p.X) && isNaN(p.Y) {
		return nil
	}
	mustBeFinite(at, p)
	return []api.Point{p}
}

// place reads a place that a line string or ring goes through.
func (w *walk) place(little bool) api.Point {
	at := w.from.At()
	p := w.patterns(little)
	mustBeFinite(at, p)
	return p
}

// patterns reads X and Y, whatever they are.
func (w *walk) patterns(little bool) api.Point {
	x := sure(w, w.from.Word64(little))
	y := sure(w, w.from.Word64(little))
	return api.Point{X: x, Y: y}
}

// mustBeFinite gives up, if one of the patterns that begin at that place is not finite.
func mustBeFinite(at int, p api.Point) {
	if !isFinite(p.X) {
		giveUp(at, api.ErrCoord)
	}
	if !isFinite(p.Y) {
		giveUp(at+placeBytes/2, api.ErrCoord)
	}
}
