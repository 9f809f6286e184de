package wkt_test

import (
	"errors"
	"math"
	"math/big"
	"regexp"
	"slices"
	"strconv"
	"strings"
	"testing"

	"plumb/api"
	"plumb/lex"
	"plumb/tree"
	"plumb/wkt"
)

// isFault tells whether an error is a *api.Fault itself, with that place and that Errno.
func isFault(err error, at int, code api.Errno) bool {
	f, ok := err.(*api.Fault)
	return ok && f != nil && f.At == at && f.Err == error(code) && errors.Is(err, code) && api.Code(err) == code && api.Place(err) == at
}

// isNothing tells whether a Geom is the zero one.
func isNothing(g api.Geom) bool {
	return g.Kind == 0 && len(g.Line)+len(g.Rings)+len(g.Parts) == 0
}

// kinds are the words of the kinds, by their numbers.
var kinds = []string{1: "POINT", 2: "LINESTRING", 3: "POLYGON", 4: "MULTIPOINT", 5: "MULTILINESTRING", 6: "MULTIPOLYGON", 7: "GEOMETRYCOLLECTION"}

// numeral is what a numeral may be.
const numeral = `[+-]?(?:(?:\d+\.?\d*|\.\d+)(?:[eE][+-]?\d+)?|0[xX](?:[\da-fA-F]+\.?[\da-fA-F]*|\.[\da-fA-F]+)[pP][+-]?\d+|\d+/\d+)`

// pattern is what may stand at a place: blanks, then a word, a numeral, a mark or the end.
var pattern = func() *regexp.Regexp {
	re := regexp.MustCompile(`^[ \t\n\r]*(?:[A-Za-z]+|` + numeral + `|[(),]|$)`)
	re.Longest()
	return re
}()

// plainNext gives the text of the token at a place (a word in capitals; the end: no text), its place, and that behind
// it; false: the place is that of what is no token.
func plainNext(s string, at int) (string, int, int, bool) {
	rest := strings.TrimLeft(s[at:], " \t\n\r")
	from := len(s) - len(rest)
	if !pattern.MatchString(s[at:]) {
		return "", from, 0, false
	}
	to := at + len(pattern.FindString(s[at:]))
	text := s[from:to]
	if text != "" && !strings.Contains("(),", text) && to < len(s) && !strings.ContainsRune(" \t\n\r,()", rune(s[to])) {
		return "", to, 0, false
	}
	if text != "" && strings.Trim(strings.ToLower(text), "abcdefghijklmnopqrstuvwxyz") == "" {
		text = strings.ToUpper(text)
	}
	return text, from, to, true
}

// isNumeral tells whether a token's text is a numeral's.
func isNumeral(text string) bool {
	return text != "" && strings.Trim(text, "0123456789.+-/abcdefpxABCDEFPX") == "" && strings.ContainsAny(text, "0123456789")
}

// bits gives a numeral's pattern by the library's road; false: it has none.
func bits(text string) (uint64, bool) {
	above, below, isRatio := strings.Cut(text, "/")
	if !isRatio {
		f, err := strconv.ParseFloat(text, 64)
		return math.Float64bits(f), err == nil
	}
	sign := uint64(0)
	if strings.HasPrefix(above, "-") {
		sign = 1 << 63
	}
	p, _ := new(big.Int).SetString(strings.TrimLeft(above, "+-"), 10)
	q, _ := new(big.Int).SetString(below, 10)
	if q.Sign() == 0 {
		return 0, false
	}
	f, _ := new(big.Rat).SetFrac(p, q).Float64()
	return math.Float64bits(f) | sign, !math.IsInf(f, 0)
}

// due is a thing that the text must go on with.
type due struct {
	what string
	node int // the number of the geometry that it belongs to
}

// plain reads a text by a stack of what is due, one token after the other, with no call within a call.
type plain struct {
	stack    []due
	nodes    []api.Node
	levels   []int // of the nodes
	numerals []api.Numeral
	depth    int
	rounds   bool // whether a numeral that has no pattern is refused
	even     bool // whether the last numeral was an X
	x        uint64
}

// push lays things on the stack; the first of them is due first.
func (p *plain) push(node int, what ...string) {
	for _, w := range slices.Backward(what) {
		p.stack = append(p.stack, due{w, node})
	}
}

// begin notes a geometry, a part of the one with the number home (-1: of none).
func (p *plain) begin(kind int, home int) (int, api.Errno) {
	level := 1
	if home >= 0 {
		level = p.levels[home] + 1
	}
	if level > p.depth || level > 256 {
		return 0, api.ErrDepth
	}
	n := api.Node{Kind: kind}
	if kind != 3 {
		n.Sizes = []int{0}
	}
	p.nodes, p.levels = append(p.nodes, n), append(p.levels, level)
	return len(p.nodes) - 1, 0
}

// grow counts one thing more in the last of a geometry's sizes.
func (p *plain) grow(node int) {
	sizes := p.nodes[node].Sizes
	sizes[len(sizes)-1]++
}

// open lays what follows a parenthesis behind a kind's word.
func (p *plain) open(node int) {
	switch p.nodes[node].Kind {
	case 1:
		p.grow(node)
		p.push(node, "number", "number", ")")
	case 2:
		p.grow(node)
		p.push(node, "number", "number", "more points")
	case 3:
		p.push(node, "ring", "more rings")
	case 7:
		p.grow(node)
		p.push(node, "geometry", "more parts")
	default:
		p.grow(node)
		p.push(node, "member", "more members")
	}
}

// number takes a numeral as a coordinate of a geometry.
func (p *plain) number(node int, text string) api.Errno {
	if !isNumeral(text) {
		return api.ErrSyntax
	}
	b, ok := bits(text)
	if !ok && p.rounds {
		return api.ErrRange
	}
	n, err := lex.Parse(text)
	if err != nil {
		panic(text + " is no numeral")
	}
	p.numerals = append(p.numerals, n)
	p.even = !p.even
	if p.even {
		p.x = b
	} else {
		p.nodes[node].Line = append(p.nodes[node].Line, api.Point{X: p.x, Y: b})
	}
	return 0
}

// more takes a comma, behind which things are due, or a parenthesis.
func (p *plain) more(text string, node int, what ...string) api.Errno {
	switch text {
	case ",":
		p.push(node, what...)
		return 0
	case ")":
		return 0
	}
	return api.ErrSyntax
}

// member takes the first token of a part of a MULTI geometry.
func (p *plain) member(home int, text string) api.Errno {
	kind := p.nodes[home].Kind - 3
	bare := kind == 1 && isNumeral(text)
	if !bare && text != "(" && text != "EMPTY" {
		return api.ErrSyntax
	}
	node, e := p.begin(kind, home)
	switch {
	case e != 0:
		return e
	case bare:
		p.grow(node)
		p.push(node, "number")
		return p.number(node, text)
	case text == "(":
		p.open(node)
	}
	return 0
}

// step takes a token.
func (p *plain) step(text string) api.Errno {
	top := p.stack[len(p.stack)-1]
	p.stack = p.stack[:len(p.stack)-1]
	at := top.node
	switch top.what {
	case "geometry":
		kind := slices.Index(kinds[1:], text) + 1
		if kind == 0 {
			return api.ErrSyntax
		}
		node, e := p.begin(kind, at)
		p.push(node, "body")
		return e
	case "body":
		if text == "(" {
			p.open(at)
			return 0
		}
		if text == "EMPTY" {
			return 0
		}
	case "ring":
		if text == "(" {
			p.nodes[at].Sizes = append(p.nodes[at].Sizes, 1)
			p.push(at, "number", "number", "more points")
			return 0
		}
	case "member":
		return p.member(at, text)
	case "number":
		return p.number(at, text)
	case "more points":
		if text == "," {
			p.grow(at)
		}
		return p.more(text, at, "number", "number", "more points")
	case "more rings":
		return p.more(text, at, "ring", "more rings")
	case "more parts", "more members":
		if text == "," {
			p.grow(at)
		}
		return p.more(text, at, map[string]string{"more parts": "geometry", "more members": "member"}[top.what], top.what)
	case text: // ")", or the end
		return 0
	}
	return api.ErrSyntax
}

// plainRead reads a text; what is wrong, by its place and number, or 0.
func plainRead(s string, maxDepth int, maxBytes int, rounds bool) (*plain, int, api.Errno) {
	limit := 65536
	if maxBytes < limit {
		limit = maxBytes
	}
	if limit < 0 {
		limit = 0
	}
	if len(s) > limit {
		return nil, limit, api.ErrSize
	}
	p := &plain{depth: maxDepth, rounds: rounds}
	p.push(-1, "geometry", "")
	at := 0
	for len(p.stack) > 0 {
		text, from, to, ok := plainNext(s, at)
		if !ok {
			return nil, from, api.ErrSyntax
		}
		if e := p.step(text); e != 0 {
			return nil, from, e
		}
		at = to
	}
	return p, 0, 0
}

// plainTree gives the tree of what was read.
func plainTree(p *plain) api.Geom {
	g, err := tree.Grow(p.nodes)
	if err != nil {
		panic(err)
	}
	return g
}

// same tells whether nodes are those that were read, without their points.
func same(got []api.Node, want []api.Node) bool {
	return slices.EqualFunc(got, want, func(a api.Node, b api.Node) bool {
		return a.Kind == b.Kind && slices.Equal(a.Sizes, b.Sizes) && len(a.Line) == 0
	})
}

// plainMany reads a text of many.
func plainMany(s string, maxDepth int, maxBytes int) ([]api.Geom, int, api.Errno) {
	if _, at, e := plainRead(s, maxDepth, maxBytes, true); e == api.ErrSize {
		return nil, at, e
	}
	var out []api.Geom
	if strings.Trim(s, " \t\n\r") == "" {
		return nil, 0, 0
	}
	from := 0
	for {
		piece, rest, more := strings.Cut(s[from:], ";")
		p, at, e := plainRead(piece, maxDepth, math.MaxInt, true)
		if e != 0 {
			return nil, from + at, e
		}
		out = append(out, plainTree(p))
		if !more {
			return out, 0, 0
		}
		from = len(s) - len(rest)
	}
}

// holds holds Parse and Shape of a text to the plain way, and gives Parse's error.
func holds(t *testing.T, s string, maxDepth int, maxBytes int) error {
	t.Helper()
	p, at, code := plainRead(s, maxDepth, maxBytes, true)
	g, err := wkt.Parse(s, maxDepth, maxBytes)
	switch {
	case code != 0:
		if !isFault(err, at, code) || !isNothing(g) {
			t.Errorf("P19.1: Parse(%.300q, %d, %d) = %v, %v, want %d at %d", s, maxDepth, maxBytes, g, err, code, at)
		}
	case err != nil || !tree.Equal(g, plainTree(p)) || tree.Check(g) != nil:
		t.Errorf("P19.1: Parse(%.300q, %d, %d) = %v, %v, want %v", s, maxDepth, maxBytes, g, err, plainTree(p))
	}
	p, at, code = plainRead(s, maxDepth, maxBytes, false)
	nodes, numerals, bad := wkt.Shape(s, maxDepth, maxBytes)
	switch {
	case code != 0:
		if !isFault(bad, at, code) || len(nodes)+len(numerals) != 0 {
			t.Errorf("P19.2: Shape(%.300q, %d, %d) = %v, %v, %v, want %d at %d", s, maxDepth, maxBytes, nodes, numerals, bad, code, at)
		}
	case bad != nil || !same(nodes, p.nodes) || !slices.Equal(numerals, p.numerals):
		t.Errorf("P19.2: Shape(%.300q, %d, %d) = %v, %v, %v, want %v, %v", s, maxDepth, maxBytes, nodes, numerals, bad, p.nodes, p.numerals)
	}
	return err
}

// holdsMany holds Many of a text to the plain way, and gives its error.
func holdsMany(t *testing.T, s string, maxDepth int, maxBytes int) error {
	t.Helper()
	want, at, code := plainMany(s, maxDepth, maxBytes)
	got, err := wkt.Many(s, maxDepth, maxBytes)
	switch {
	case code != 0:
		if !isFault(err, at, code) || len(got) != 0 {
			t.Errorf("P19.3: Many(%.300q, %d, %d) = %v, %v, want %d at %d", s, maxDepth, maxBytes, got, err, code, at)
		}
	case err != nil || !slices.EqualFunc(got, want, tree.Equal):
		t.Errorf("P19.3: Many(%.300q, %d, %d) = %v, %v, want %v", s, maxDepth, maxBytes, got, err, want)
	}
	return err
}
