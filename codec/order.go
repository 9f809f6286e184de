package codec

import (
	"plumb/api"
	"plumb/wkb"
)

// firstBytes are those with which geometries in the two orders begin, by format.
var firstBytes = [...]byte{api.AsBig: 0, api.AsLittle: 1}

// otherOrder gives the error of bytes, read as that tree, in which a geometry does not begin with that byte.
func otherOrder(g api.Geom, s []byte, first byte) error {
	w := walk{bytes: s, first: first}
	if !w.passes(g) {
		return api.Wrap(w.at, api.ErrOrder)
	}
	return nil
}

// walk goes over the bytes of a tree from geometry to geometry, as long as these begin with one byte.
type walk struct {
	bytes []byte
	first byte
	at    int
}

// passes goes over a geometry with its parts. If one begins with another byte, it stays there, and tells false.
func (w *walk) passes(g api.Geom) bool {
	if w.bytes[w.at] != w.first {
		return false
	}
	w.at += ownSize(g)
	for _, part := range g.Parts {
		if !w.passes(part) {
			return false
		}
	}
	return true
}

// ownSize gives how many bytes a geometry of a tree has ahead of its parts: as many as it has without them.
func ownSize(g api.Geom) int {
	g.Parts = nil
	// Nothing can be wrong here: what is a tree is one without its parts, too.
	size, _ := wkb.Size(g)
	return size
}
