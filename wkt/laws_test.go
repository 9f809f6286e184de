package wkt_test

import (
	"math"
	"slices"
	"strings"
	"sync"
	"testing"

	"plumb/api"
	"plumb/atof"
	"plumb/sample"
	"plumb/tree"
	"plumb/wkt"
)

// changed gives tokens with something done to them.
func changed(rule *sample.Rule, tokens []string) []string {
	tokens = slices.Clone(tokens)
	for range 1 + rule.Below(2) {
		if len(tokens) == 0 {
			return tokens
		}
		at := rule.Below(len(tokens))
		switch rule.Below(6) {
		case 0:
			tokens = tokens[:at]
		case 1:
			tokens = slices.Delete(tokens, at, at+1)
		case 2:
			tokens = slices.Insert(tokens, at, some(rule, pieces()...))
		case 3:
			tokens[at] = some(rule, pieces()...)
		case 4:
			other := rule.Below(len(tokens))
			tokens[at], tokens[other] = tokens[other], tokens[at]
		case 5: // a number that has no pattern
			for i := at; i < len(tokens); i++ {
				if strings.ContainsAny(tokens[i], "0123456789") {
					tokens[i] = some(rule, "1e309", "-1/0", "0x1p1024", "0/0")
					break
				}
			}
		}
	}
	return tokens
}

// P19.1: the texts of trees give these, however they are written, with limits that just hold them.
func TestTextsOfTrees(t *testing.T) {
	rule := sample.Rule(190)
	for _, g := range sample.Trees() {
		takes(t, joined(&rule, texts(&rule, g)), g)
	}
}

// P19.1, P19.2: texts that are nearly those of trees, most of them wrong somewhere, against the plain way.
func TestAgainstThePlainWay(t *testing.T) {
	rule := sample.Rule(191)
	seen := map[api.Errno]int{}
	for range 30000 {
		tokens := texts(&rule, rule.Tree(1+rule.Below(4)))
		if rule.Below(5) > 0 {
			tokens = changed(&rule, tokens)
		}
		s := joined(&rule, tokens)
		depth, most := rule.Below(6), api.MaxText
		switch rule.Below(20) {
		case 0:
			most = len(s) - rule.Below(3)
		case 1:
			depth = -rule.Below(3)
		}
		seen[api.Code(holds(t, s, depth, most))]++
	}
	for _, e := range []api.Errno{api.OK, api.ErrSize, api.ErrSyntax, api.ErrDepth, api.ErrRange} {
		if seen[e] < 100 {
			t.Errorf("only %d of the error %d", seen[e], e)
		}
	}
}

// P19.1, P19.2: all that may stand, and may not, behind each beginning of a few tokens that may be gone on with.
func TestAllBeginnings(t *testing.T) {
	next := append([]string{"EMPTY", "(", ")", ",", "1", "1e309", "x", ";"}, kinds[1:]...)
	open := []string{""}
	taken := 0
	for range 11 {
		var longer []string
		for _, s := range open {
			for _, piece := range next {
				whole := s + piece + " "
				for depth := range 3 {
					holds(t, whole, depth, api.MaxText)
				}
				_, err := wkt.Parse(whole, 2, api.MaxText)
				switch {
				case err == nil:
					taken++
				case api.Place(err) == len(whole):
					longer = append(longer, whole)
				}
			}
		}
		open = longer
	}
	if taken < 100 {
		t.Errorf("only %d texts are taken", taken)
	}
}

// P19.1, P19.2: each byte in each place of a text, in place of the one there and ahead of it; and each beginning.
func TestEachByte(t *testing.T) {
	for _, s := range []string{"POINT (1 2)", "MultiPoint((1 -.5),3/4 0x1p3 , EMPTY)", "POLYGON((1 2,1e5 2)) "} {
		for at := range len(s) + 1 {
			holds(t, s[:at], 2, 99)
			for c := range 256 {
				one := string([]byte{byte(c)})
				holds(t, s[:at]+one+s[at:], 2, 99)
				if at < len(s) {
					holds(t, s[:at]+one+s[at+1:], 2, 99)
				}
			}
		}
	}
}

// P19.4: blanks and the case of letters change no answer but places.
func TestBlanksAndCase(t *testing.T) {
	rule := sample.Rule(194)
	for range 3000 {
		tokens := texts(&rule, rule.Tree(1+rule.Below(4)))
		if rule.Below(2) == 0 {
			tokens = changed(&rule, tokens)
		}
		if slices.Contains(tokens, ";") { // no token: blanks ahead of it matter
			continue
		}
		depth := 1 + rule.Below(4)
		plain := spaced(tokens, " ")
		want, err := wkt.Parse(plain, depth, api.MaxText)
		nodes, numerals, bad := wkt.Shape(plain, depth, api.MaxText)
		for _, s := range []string{spaced(tokens, "\t"), spaced(tokens, "\n"), spaced(tokens, "\r"), spaced(tokens, " \r\n\t "), joined(&rule, tokens),
			strings.ToLower(plain), strings.ToUpper(plain)} {
			g, again := wkt.Parse(s, depth, api.MaxText)
			if api.Code(again) != api.Code(err) || !tree.Equal(g, want) {
				t.Fatalf("P19.4: Parse(%q, %d) = %v, %v, but of %q %v, %v", s, depth, g, again, plain, want, err)
			}
			l, n, again := wkt.Shape(s, depth, api.MaxText)
			if api.Code(again) != api.Code(bad) || !same(l, nodes) || !slices.Equal(n, numerals) {
				t.Fatalf("P19.4: Shape(%q, %d) = %v, %v, %v, but of %q %v, %v, %v", s, depth, l, n, again, plain, nodes, numerals, bad)
			}
		}
	}
}

// P19.4: greater limits change nothing, and a tree of depth D is given just by depth limits of D or more; no beginning
// of its text is taken, but for one that lacks blanks alone.
func TestGreaterLimits(t *testing.T) {
	rule := sample.Rule(195)
	for _, g := range sample.Trees() {
		s := joined(&rule, texts(&rule, g))
		depth := tree.Depth(g)
		for _, more := range []int{depth, depth + 1, 256, 257, math.MaxInt} {
			for _, most := range []int{len(s), len(s) + 1, api.MaxText, api.MaxText + 1, math.MaxInt} {
				if got, err := wkt.Parse(s, more, most); err != nil || !tree.Equal(got, g) {
					t.Fatalf("P19.4: Parse(%q, %d, %d) = %v, %v, want %v", s, more, most, got, err, g)
				}
			}
		}
		for less := range depth {
			if got, err := wkt.Parse(s, less, len(s)); api.Code(err) != api.ErrDepth || !isNothing(got) {
				t.Fatalf("P19.4: Parse(%q, %d) = %v, %v, a tree of depth %d", s, less, got, err, depth)
			}
		}
		if len(s) > 3000 {
			continue
		}
		for n := range strings.TrimRight(s, " \t\r\n") {
			if got, err := wkt.Parse(s[:n], 256, api.MaxText); api.Code(err) != api.ErrSyntax || !isNothing(got) {
				t.Fatalf("P19.4: Parse(%q) = %v, %v, a beginning of %q", s[:n], got, err, s)
			}
		}
	}
}

// P19.4: Parse answers a tree just if Shape answers nodes and each numeral has a pattern; its points are these.
func TestParseAndShape(t *testing.T) {
	rule := sample.Rule(196)
	seen := map[api.Errno]int{}
	for range 10000 {
		tokens := texts(&rule, rule.Tree(1+rule.Below(4)))
		if rule.Below(3) > 0 {
			tokens = changed(&rule, tokens)
		}
		s, depth := joined(&rule, tokens), rule.Below(5)
		g, err := wkt.Parse(s, depth, api.MaxText)
		nodes, numerals, bad := wkt.Shape(s, depth, api.MaxText)
		seen[api.Code(err)]++
		var patterns []uint64
		for _, n := range numerals {
			if b, e := atof.Bits(n); e == api.OK {
				patterns = append(patterns, b)
			}
		}
		if (err == nil) != (bad == nil && len(patterns) == len(numerals)) {
			t.Fatalf("P19.4: %q: Parse: %v, Shape: %v, %d patterns of %d numerals", s, err, bad, len(patterns), len(numerals))
		}
		if err != nil {
			continue
		}
		flat, _ := tree.Flat(g)
		var got []uint64
		for _, p := range tree.Points(g) {
			got = append(got, p.X, p.Y)
		}
		if !same(nodes, flat) || !slices.Equal(got, patterns) {
			t.Fatalf("P19.4: %q: the tree %v, Shape: %v, %v", s, g, nodes, numerals)
		}
	}
	if seen[api.OK] < 500 || seen[api.ErrRange] < 500 || seen[api.ErrSyntax] < 500 {
		t.Errorf("seen: %v", seen)
	}
}

// P19.4: texts joined by semicolons give their trees.
func TestManyOfTexts(t *testing.T) {
	rule := sample.Rule(197)
	all := sample.Trees()
	for range 500 {
		var trees []api.Geom
		var list []string
		for range 1 + rule.Below(6) {
			g := all[rule.Below(len(all))]
			trees = append(trees, g)
			list = append(list, joined(&rule, texts(&rule, g)))
		}
		s := strings.Join(list, ";")
		if got, err := wkt.Many(s, 256, len(s)); len(s) <= api.MaxText && (err != nil || !slices.EqualFunc(got, trees, tree.Equal)) {
			t.Fatalf("P19.4: Many(%q) = %v, %v, want %v", s, got, err, trees)
		}
	}
}

// P19.5: every list of an answer stands apart, from those of other answers too, and what is written into one is seen in
// no later one.
func TestMemory(t *testing.T) {
	rule := sample.Rule(198)
	ground := sample.NewGround()
	for _, g := range sample.Trees() {
		s := joined(&rule, texts(&rule, g))
		for range 2 {
			got, err := wkt.Parse(s, 256, api.MaxText)
			if err != nil || !tree.Equal(got, g) || !ground.Geom(got) {
				t.Fatalf("P19.5: Parse(%q): %v, %v, or it shares memory", s, got, err)
			}
			nodes, numerals, err := wkt.Shape(s, 256, api.MaxText)
			flat, _ := tree.Flat(g)
			if err != nil || !same(nodes, flat) || slices.Contains(numerals, api.Numeral{Kind: 77}) || !ground.Nodes(nodes) {
				t.Fatalf("P19.5: Shape(%q): %v, %v, %v, or it shares memory", s, nodes, numerals, err)
			}
			many, err := wkt.Many(s+";"+s, 256, math.MaxInt)
			if err != nil || !slices.EqualFunc(many, []api.Geom{g, g}, tree.Equal) || !ground.Geom(api.Geom{Parts: many}) {
				t.Fatalf("P19.5: Many of %q twice: %v, %v, or it shares memory", s, many, err)
			}
			spoil(got)
			spoil(api.Geom{Parts: many})
			numerals = numerals[:cap(numerals)]
			for i := range numerals {
				numerals[i] = api.Numeral{Kind: 77}
			}
			for _, n := range nodes {
				clear(n.Sizes[:cap(n.Sizes)])
			}
			clear(nodes[:cap(nodes)])
		}
	}
}

// spoil writes over all lists of a tree and their spare room.
func spoil(g api.Geom) {
	for _, part := range g.Parts {
		spoil(part)
	}
	for _, ring := range g.Rings {
		clear(ring[:cap(ring)])
	}
	clear(g.Line[:cap(g.Line)])
	clear(g.Rings[:cap(g.Rings)])
	clear(g.Parts[:cap(g.Parts)])
}

// P19.5, P0.1: many may ask at once; an error that is written over changes no later one.
func TestManyAtOnce(t *testing.T) {
	rule := sample.Rule(199)
	var list []string
	for range 300 {
		tokens := texts(&rule, rule.Tree(3))
		list = append(list, joined(&rule, tokens), joined(&rule, changed(&rule, tokens)))
	}
	var wait sync.WaitGroup
	for from := range 4 {
		wait.Go(func() {
			for _, s := range list[from*20:] {
				for _, err := range []error{holds(t, s, 3, api.MaxText), holdsMany(t, s, 3, api.MaxText)} {
					if err != nil {
						*err.(*api.Fault) = api.Fault{At: -7}
					}
				}
			}
		})
	}
	wait.Wait()
}
