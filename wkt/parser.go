package wkt

import (
	"slices"

	"plumb/api"
	"plumb/token"
)

// parser reads a text's tokens from the left, and makes of them the tree that they tell.
type parser struct {
	*token.Reader
	depth   int                                     // the greatest level that is taken
	pattern func(n api.Numeral) (uint64, api.Errno) // what becomes of a numeral that is taken as a coordinate
}

// read gives the tree of a text, however long that is.
func read(s string, maxDepth int, pattern func(n api.Numeral) (uint64, api.Errno)) (api.Geom, error) {
	p := &parser{Reader: token.New(s), depth: min(api.MaxDepth, maxDepth), pattern: pattern}
	g, err := p.geometry(1)
	if err == nil {
		_, err = p.expect(api.EndToken)
	}
	if err != nil {
		return api.Geom{}, err
	}
	return g, nil
}

// geometry reads a geometry of that level: its kind's word, and what stands behind that.
func (p *parser) geometry(level int) (api.Geom, error) {
	t, err := p.take()
	if err != nil {
		return api.Geom{}, err
	}
	kind := kindOf(t.Word)
	if kind == noKind {
		return api.Geom{}, misplaced(t)
	}
	if err := p.tooDeep(t, level); err != nil {
		return api.Geom{}, err
	}
	return p.body(kind, level)
}

// body reads what a geometry of that kind and level is behind its word: EMPTY, or what stands in parentheses.
func (p *parser) body(kind int, level int) (api.Geom, error) {
	g := api.Geom{Kind: kind}
	open, err := p.opens()
	if err != nil || !open {
		return g, err
	}
	switch kind {
	case api.APoint:
		g.Line, err = p.spot()
	case api.ALine:
		g.Line, err = list(p, p.pair)
	case api.APolygon:
		g.Rings, err = list(p, p.ring)
	default:
		g.Parts, err = list(p, func() (api.Geom, error) { return p.part(kind, level+1) })
	}
	return g, err
}

// opens reads EMPTY or an opening parenthesis, and tells whether it was the parenthesis.
func (p *parser) opens() (bool, error) {
	t, err := p.take()
	if err == nil && !beginsBody(t) {
		err = misplaced(t)
	}
	return t.Kind == api.OpenToken, err
}

// part reads a part, of that level, of a geometry of the kind home.
func (p *parser) part(home int, level int) (api.Geom, error) {
	if home == api.Collection {
		return p.geometry(level)
	}
	t, err := p.look()
	if err != nil {
		return api.Geom{}, err
	}
	bare := home == api.Points && t.Kind == api.Number
	if !bare && !beginsBody(t) {
		return api.Geom{}, misplaced(t)
	}
	if err := p.tooDeep(t, level); err != nil {
		return api.Geom{}, err
	}
	if bare {
		place, err := p.pair()
		return api.Geom{Kind: api.APoint, Line: []api.Point{place}}, err
	}
	return p.body(partOf(home), level)
}

// list reads one member or more, commas between them, and the parenthesis that shuts them.
func list[T any](p *parser, member func() (T, error)) ([]T, error) {
	var out []T
	for {
		m, err := member()
		if err != nil {
			return nil, err
		}
		out = append(out, m)
		t, err := p.expect(api.Comma, api.ShutToken)
		if err != nil {
			return nil, err
		}
		if t.Kind == api.ShutToken {
			return out, nil
		}
	}
}

// ring reads a ring.
func (p *parser) ring() ([]api.Point, error) {
	if _, err := p.expect(api.OpenToken); err != nil {
		return nil, err
	}
	return list(p, p.pair)
}

// spot reads where a point is, and the parenthesis that shuts it.
func (p *parser) spot() ([]api.Point, error) {
	place, err := p.pair()
	if err != nil {
		return nil, err
	}
	if _, err := p.expect(api.ShutToken); err != nil {
		return nil, err
	}
	return []api.Point{place}, nil
}

// pair reads X and Y.
func (p *parser) pair() (api.Point, error) {
	x, err := p.coordinate()
	if err != nil {
		return api.Point{}, err
	}
	y, err := p.coordinate()
	if err != nil {
		return api.Point{}, err
	}
	return api.Point{X: x, Y: y}, nil
}

// coordinate reads a numeral as a coordinate.
func (p *parser) coordinate() (uint64, error) {
	t, err := p.expect(api.Number)
	if err != nil {
		return 0, err
	}
	b, e := p.pattern(t.Num)
	if e != api.OK {
		return 0, api.Wrap(t.From, api.ErrRange)
	}
	return b, nil
}

// tooDeep gives the error of a geometry that begins with that token, if its level is beyond the limit.
func (p *parser) tooDeep(t api.Token, level int) error {
	if level > p.depth {
		return api.Wrap(t.From, api.ErrDepth)
	}
	return nil
}

// expect reads a token that must be of one of these kinds.
func (p *parser) expect(kinds ...int) (api.Token, error) {
	t, err := p.take()
	if err == nil && !slices.Contains(kinds, t.Kind) {
		err = misplaced(t)
	}
	return t, err
}

// take reads the next token, whatever it is.
func (p *parser) take() (api.Token, error) {
	t, err := p.Next()
	return t, refused(err)
}

// look gives the next token, and leaves it there.
func (p *parser) look() (api.Token, error) {
	t, err := p.Peek()
	return t, refused(err)
}

// refused gives an error of the token reader as one of this layer: what is no token is no geometry's text either.
func refused(err error) error {
	if err == nil {
		return nil
	}
	return api.Wrap(api.Place(err), api.ErrSyntax)
}

// misplaced is the error of a token that may not stand where it does.
func misplaced(t api.Token) error {
	return api.Wrap(t.From, api.ErrSyntax)
}
