package print

import (
	"plumb/api"
	"plumb/ftoa"
)

// printer writes geometries of a tree, with numbers in a mode that is one.
type printer struct {
	to   sink
	mode int
}

// geometry writes a geometry: its kind's word, and its body.
func (p printer) geometry(g api.Geom) {
	p.to.put(kindWords[g.Kind])
	p.to.put(" ")
	p.body(g)
}

// body writes what stands behind a geometry's word.
func (p printer) body(g api.Geom) {
	switch g.Kind {
	case api.APoint, api.ALine:
		p.pairs(g.Line)
	case api.APolygon:
		p.list(len(g.Rings), func(i int) { p.pairs(g.Rings[i]) })
	case api.Collection:
		p.list(len(g.Parts), func(i int) { p.geometry(g.Parts[i]) })
	default:
		// What kind the parts are, the word of the whole tells.
		p.list(len(g.Parts), func(i int) { p.body(g.Parts[i]) })
	}
}

// pairs writes points as members.
func (p printer) pairs(l []api.Point) {
	p.list(len(l), func(i int) { p.pair(l[i]) })
}

// list writes so many members, each by its number, or EMPTY in place of none.
func (p printer) list(n int, member func(i int)) {
	if n == 0 {
		p.to.put("EMPTY")
		return
	}
	p.to.put("(")
	for i := range n {
		if i > 0 {
			p.to.put(between)
		}
		member(i)
	}
	p.to.put(")")
}

// pair writes a point's two numbers.
func (p printer) pair(at api.Point) {
	p.number(at.X)
	p.to.put(" ")
	p.number(at.Y)
}

// number writes a pattern's number.
func (p printer) number(b uint64) {
	// Nothing can be wrong here: the mode is one, and a tree's patterns are finite.
	text, _ := ftoa.Text(b, p.mode)
	p.to.put(text)
}
