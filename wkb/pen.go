package wkb

import (
	"plumb/api"
	"plumb/octet"
)

// size tells how many bytes a tree's nodes have.
func size(nodes []api.Node) int {
	n := 0
	for _, node := range nodes {
		n += headBytes + bodyBytes(node)
	}
	return n
}

// bodyBytes tells how many bytes stand behind a geometry's kind, those of its parts not counted.
func bodyBytes(n api.Node) int {
	places := placeBytes * len(n.Line)
	switch n.Kind {
	case api.APoint:
		return placeBytes
	case api.APolygon:
		return countBytes + countBytes*len(n.Sizes) + places
	}
	return countBytes + places
}

// pen writes numbers behind one another.
type pen struct {
	bytes  []byte
	little bool
}

// geometry writes a geometry in the pen's order; of its parts only how many there are.
func (p *pen) geometry(n api.Node) {
	p.order()
	p.number(n.Kind)
	switch n.Kind {
	case api.APoint:
		p.spot(n.Line)
	case api.ALine:
		p.line(n.Line)
	case api.APolygon:
		p.number(len(n.Sizes))
		rest := n.Line
		for _, size := range n.Sizes {
			p.line(rest[:size])
			rest = rest[size:]
		}
	default:
		p.number(n.Sizes[0])
	}
}

// order writes the byte that tells the pen's order.
func (p *pen) order() {
	if p.little {
		p.bytes = append(p.bytes, 1)
	} else {
		p.bytes = append(p.bytes, 0)
	}
}

// number writes a number of 32 bits. It is laid apart from the bytes: laid behind them it would copy them all.
func (p *pen) number(n int) {
	p.bytes = append(p.bytes, octet.Put32(nil, uint32(n), p.little)...)
}

// pattern writes a pattern.
func (p *pen) pattern(b uint64) {
	p.bytes = append(p.bytes, octet.Put64(nil, b, p.little)...)
}

// line writes how many points there are, and these.
func (p *pen) line(l []api.Point) {
	p.number(len(l))
	for _, at := range l {
		p.place(at)
	}
}

// spot writes where a point is.
func (p *pen) spot(l []api.Point) {
	if len(l) == 0 {
		p.place(api.Point{X: lost, Y: lost})
		return
	}
	p.place(l[0])
}

// place writes X and Y.
func (p *pen) place(at api.Point) {
	p.pattern(at.X)
	p.pattern(at.Y)
}
