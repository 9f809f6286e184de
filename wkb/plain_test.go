package wkb_test

import (
	"encoding/binary"
	"encoding/hex"
	"errors"
	"math"
	"strings"
	"testing"

	"plumb/api"
)

// hexa gives the bytes of hex digits with blanks between.
func hexa(t *testing.T, s string) []byte {
	t.Helper()
	b, err := hex.DecodeString(strings.ReplaceAll(s, " ", ""))
	if err != nil {
		t.Fatalf("%q: %v", s, err)
	}
	return b
}

// isFault tells whether an error is a *api.Fault itself, with that place and that Errno.
func isFault(err error, at int, code api.Errno) bool {
	f, ok := err.(*api.Fault)
	return ok && f != nil && f.At == at && f.Err == error(code) && errors.Is(err, code) && api.Code(err) == code && api.Place(err) == at
}

// isNothing tells whether a Geom is the zero one.
func isNothing(g api.Geom) bool {
	return g.Kind == 0 && len(g.Line)+len(g.Rings)+len(g.Parts) == 0
}

// places are so many points at 0.
func places(n int) []api.Point {
	return make([]api.Point, n)
}

// plain reads bytes by the plain way: every step answers what is wrong, or 0.
type plain struct {
	bytes  []byte
	at     int
	depth  int
	orders []bool
	place  int // of what is wrong
}

// plainParse reads as Parse and Orders do together.
func plainParse(b []byte, maxDepth int, maxBytes int) (api.Geom, []bool, int, api.Errno) {
	limit := api.MaxText
	if maxBytes < limit {
		limit = maxBytes
	}
	if limit < 0 {
		limit = 0
	}
	if len(b) > limit {
		return api.Geom{}, nil, limit, api.ErrSize
	}
	if maxDepth > api.MaxDepth {
		maxDepth = api.MaxDepth
	}
	r := &plain{bytes: b, depth: maxDepth}
	g, e := r.geometry(1, 7)
	if e == 0 && r.at != len(b) {
		e = r.wrong(r.at, api.ErrTrail)
	}
	if e != 0 {
		return api.Geom{}, nil, r.place, e
	}
	return g, r.orders, -1, 0
}

// wrong notes a place.
func (r *plain) wrong(at int, e api.Errno) api.Errno {
	r.place = at
	return e
}

// by gives the library's way of that order.
func by(little bool) binary.ByteOrder {
	if little {
		return binary.LittleEndian
	}
	return binary.BigEndian
}

// number reads 32 bits.
func (r *plain) number(little bool) (int64, api.Errno) {
	if len(r.bytes)-r.at < 4 {
		return 0, r.wrong(r.at, api.ErrEnd)
	}
	v := by(little).Uint32(r.bytes[r.at:])
	r.at += 4
	return int64(v), 0
}

// counted reads a count of things that have so many bytes.
func (r *plain) counted(little bool, least int64) (int64, api.Errno) {
	n, e := r.number(little)
	if e == 0 && n*least > int64(len(r.bytes)-r.at) {
		return 0, r.wrong(r.at-4, api.ErrCount)
	}
	return n, e
}

// float reads 64 bits.
func (r *plain) float(little bool) (float64, api.Errno) {
	if len(r.bytes)-r.at < 8 {
		return 0, r.wrong(r.at, api.ErrEnd)
	}
	v := by(little).Uint64(r.bytes[r.at:])
	r.at += 8
	return math.Float64frombits(v), 0
}

// pair reads X and Y, and tells whether they are those of an empty point, if these may be there.
func (r *plain) pair(little bool, mayBeEmpty bool) (api.Point, bool, api.Errno) {
	x, e := r.float(little)
	if e != 0 {
		return api.Point{}, false, e
	}
	y, e := r.float(little)
	if e != 0 {
		return api.Point{}, false, e
	}
	if mayBeEmpty && x != x && y != y {
		return api.Point{}, true, 0
	}
	if x-x != 0 {
		return api.Point{}, false, r.wrong(r.at-16, api.ErrCoord)
	}
	if y-y != 0 {
		return api.Point{}, false, r.wrong(r.at-8, api.ErrCoord)
	}
	order := by(little)
	return api.Point{X: order.Uint64(r.bytes[r.at-16:]), Y: order.Uint64(r.bytes[r.at-8:])}, false, 0
}

// line reads points behind their count; a ring has one at least.
func (r *plain) line(little bool, isRing bool) ([]api.Point, api.Errno) {
	n, e := r.counted(little, 16)
	if e != 0 {
		return nil, e
	}
	if isRing && n == 0 {
		return nil, r.wrong(r.at-4, api.ErrRing)
	}
	var out []api.Point
	for range n {
		p, _, e := r.pair(little, false)
		if e != 0 {
			return nil, e
		}
		out = append(out, p)
	}
	return out, 0
}

// geometry reads one.
func (r *plain) geometry(level int, home int) (api.Geom, api.Errno) {
	p := r.at
	if p == len(r.bytes) {
		return api.Geom{}, r.wrong(p, api.ErrEnd)
	}
	if r.bytes[p] > 1 {
		return api.Geom{}, r.wrong(p, api.ErrOrder)
	}
	r.at++
	little := r.bytes[p] == 1
	kind, e := r.number(little)
	switch {
	case e != 0:
		return api.Geom{}, e
	case kind == 0 || kind > 7:
		return api.Geom{}, r.wrong(p+1, api.ErrType)
	case home < 7 && kind != int64(home-3):
		return api.Geom{}, r.wrong(p+1, api.ErrMember)
	case level > r.depth:
		return api.Geom{}, r.wrong(p, api.ErrDepth)
	}
	r.orders = append(r.orders, little)
	return r.body(int(kind), little, level)
}

// body reads what stands behind a kind.
func (r *plain) body(kind int, little bool, level int) (api.Geom, api.Errno) {
	g := api.Geom{Kind: kind}
	if kind == 1 {
		p, isEmpty, e := r.pair(little, true)
		if !isEmpty {
			g.Line = []api.Point{p}
		}
		return g, e
	}
	if kind == 2 {
		var e api.Errno
		g.Line, e = r.line(little, false)
		return g, e
	}
	n, e := r.counted(little, []int64{3: 20, 4: 21, 5: 9, 6: 9, 7: 9}[kind])
	if e != 0 {
		return g, e
	}
	for range n {
		if kind == 3 {
			ring, e := r.line(little, true)
			if e != 0 {
				return g, e
			}
			g.Rings = append(g.Rings, ring)
			continue
		}
		part, e := r.geometry(level+1, kind)
		if e != 0 {
			return g, e
		}
		g.Parts = append(g.Parts, part)
	}
	return g, 0
}

// plainBytes writes a tree by the plain way, its geometries in the orders that the row gives, one after the other.
func plainBytes(g api.Geom, next func() bool) []byte {
	little := next()
	order := binary.AppendByteOrder(binary.BigEndian)
	out := []byte{0}
	if little {
		order, out[0] = binary.LittleEndian, 1
	}
	number := func(n int) { out = order.AppendUint32(out, uint32(n)) }
	points := func(l []api.Point) {
		for _, p := range l {
			out = order.AppendUint64(order.AppendUint64(out, p.X), p.Y)
		}
	}
	number(g.Kind)
	switch g.Kind {
	case 1:
		if len(g.Line) == 0 {
			points([]api.Point{{X: 0x7ff8000000000000, Y: 0x7ff8000000000000}})
		}
	case 2:
		number(len(g.Line))
	case 3:
		number(len(g.Rings))
	default:
		number(len(g.Parts))
	}
	points(g.Line)
	for _, ring := range g.Rings {
		number(len(ring))
		points(ring)
	}
	for _, part := range g.Parts {
		out = append(out, plainBytes(part, next)...)
	}
	return out
}

// all gives one order for ever.
func all(little bool) func() bool {
	return func() bool { return little }
}

// goingOn gives a list's orders, the last of them for ever; of an empty one false.
func goingOn(orders []bool) func() bool {
	last := false
	return func() bool {
		if len(orders) > 0 {
			last, orders = orders[0], orders[1:]
		}
		return last
	}
}
