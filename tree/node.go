package tree

import "plumb/api"

// flat gives the node of one geometry of a tree.
func flat(g *api.Geom) api.Node {
	n := api.Node{Kind: g.Kind}
	for list := range lists(g) {
		n.Line = append(n.Line, list...)
	}
	switch g.Kind {
	case api.APoint, api.ALine:
		n.Sizes = []int{len(g.Line)}
	case api.APolygon:
		for _, ring := range g.Rings {
			n.Sizes = append(n.Sizes, len(ring))
		}
	default:
		n.Sizes = []int{len(g.Parts)}
	}
	return n
}

// grown gives the geometry of a sound node, with as many parts as it asks for, of which none is made yet.
func grown(n api.Node) api.Geom {
	g := api.Geom{Kind: n.Kind}
	switch n.Kind {
	case api.APoint, api.ALine:
		g.Line = own(n.Line)
	case api.APolygon:
		rest := n.Line
		for _, size := range n.Sizes {
			g.Rings = append(g.Rings, own(rest[:size]))
			rest = rest[size:]
		}
	default:
		g.Parts = make([]api.Geom, n.Sizes[0])
	}
	return g
}

// stray gives the number of the first node that is not sound or that nothing asks for; where nodes are lacking at the
// end, how many there are; -1, if they are just those that the first one and its parts ask for.
func stray(l []api.Node) int {
	asked := 1
	for i, n := range l {
		if i >= asked || !sound(n) {
			return i
		}
		// One more than there are is as good as any greater number, and no sum leaves int.
		asked += min(partsOf(n), len(l)+1-asked)
	}
	if asked > len(l) {
		return len(l)
	}
	return -1
}

// partsOf tells how many parts a sound node asks for.
func partsOf(n api.Node) int {
	if hasParts(n.Kind) {
		return n.Sizes[0]
	}
	return 0
}

// hasParts tells whether geometries of that kind, which is one of the seven, are made of parts.
func hasParts(kind int) bool {
	return kind >= api.Points
}

// sound tells whether a node by itself is one.
func sound(n api.Node) bool {
	switch {
	case n.Kind < api.APoint || n.Kind > api.Collection:
		return false
	case n.Kind != api.APolygon && len(n.Sizes) != 1:
		return false
	case hasParts(n.Kind):
		return n.Sizes[0] >= 0 && len(n.Line) == 0
	}
	left := len(n.Line)
	for _, size := range n.Sizes {
		// Taken away, not added up: the sizes together may leave int.
		if size < 0 || size > left {
			return false
		}
		left -= size
	}
	return left == 0
}
