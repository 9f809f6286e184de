package wkt_test

import (
	"math"
	"slices"
	"strings"
	"testing"

	"plumb/api"
	"plumb/lex"
	"plumb/tree"
	"plumb/wkt"
)

// shapes holds Shape to nodes and to numerals, told by their texts, with limits that just hold the text.
func shapes(t *testing.T, s string, depth int, nodes []api.Node, texts ...string) {
	t.Helper()
	var numerals []api.Numeral
	for _, text := range texts {
		n, err := lex.Parse(text)
		if err != nil {
			t.Fatalf("%q: %v", text, err)
		}
		numerals = append(numerals, n)
	}
	if l, n, err := wkt.Shape(s, depth, len(s)); err != nil || !same(l, nodes) || !slices.Equal(n, numerals) {
		t.Errorf("P19.2: Shape(%.99q, %d) = %v, %v, %v, want %v, %v", s, depth, l, n, err, nodes, numerals)
	}
	if l, n, err := wkt.Shape(s, depth-1, len(s)); api.Code(err) != api.ErrDepth || len(l)+len(n) != 0 {
		t.Errorf("P19.2: Shape(%.99q, %d) = %v, %v, %v, want ErrDepth", s, depth-1, l, n, err)
	}
	if l, n, err := wkt.Shape(s, depth, len(s)-1); !isFault(err, len(s)-1, api.ErrSize) || len(l)+len(n) != 0 {
		t.Errorf("P19.2: Shape(%.99q) with a byte less = %v, %v, %v", s, l, n, err)
	}
}

// nodes gives nodes of kinds and sizes.
func nodes(l ...[]int) []api.Node {
	var out []api.Node
	for _, n := range l {
		out = append(out, api.Node{Kind: n[0], Sizes: n[1:]})
	}
	return out
}

// P19.2: the chapter's example 7, and a text of each kind, empty and not.
func TestShapeGives(t *testing.T) {
	shapes(t, "LINESTRING (1/0 2, 0x1p3 4)", 1, nodes([]int{2, 2}), "1/0", "2", "0x1p3", "4")
	shapes(t, "POINT EMPTY", 1, nodes([]int{1, 0}))
	shapes(t, "POINT (-0 1.50)", 1, nodes([]int{1, 1}), "-0", "1.50")
	shapes(t, "GEOMETRYCOLLECTION (POINT (1 2))", 2, nodes([]int{7, 1}, []int{1, 1}), "1", "2")
	shapes(t, "LINESTRING EMPTY", 1, nodes([]int{2, 0}))
	shapes(t, "POLYGON EMPTY", 1, nodes([]int{3}))
	shapes(t, "POLYGON ((1 2, 3 4), (5 6))", 1, nodes([]int{3, 2, 1}), "1", "2", "3", "4", "5", "6")
	shapes(t, "MULTIPOINT EMPTY", 1, nodes([]int{4, 0}))
	shapes(t, "MULTIPOINT (1e999 2, EMPTY, (3 -4/0))", 2, nodes([]int{4, 3}, []int{1, 1}, []int{1, 0}, []int{1, 1}), "1e999", "2", "3", "-4/0")
	shapes(t, "MULTILINESTRING (EMPTY, (1 2, 3 4))", 2, nodes([]int{5, 2}, []int{2, 0}, []int{2, 2}), "1", "2", "3", "4")
	shapes(t, "MULTIPOLYGON (((1 2), (3 4, 5 6)), EMPTY)", 2, nodes([]int{6, 2}, []int{3, 1, 2}, []int{3}), "1", "2", "3", "4", "5", "6")
	shapes(t, "MULTIPOLYGON EMPTY", 1, nodes([]int{6, 0}))
	shapes(t, "GEOMETRYCOLLECTION (GEOMETRYCOLLECTION EMPTY, GEOMETRYCOLLECTION (LINESTRING (9 8), POINT EMPTY), POINT (7 6))", 3,
		nodes([]int{7, 3}, []int{7, 0}, []int{7, 2}, []int{2, 1}, []int{1, 0}, []int{1, 1}), "9", "8", "7", "6")
}

// P19.2: no numeral is refused for its number, so that what is wrong behind it is told.
func TestShapeNeverRange(t *testing.T) {
	for _, n := range []string{"1e309", "-1e309", "1/0", "0/0", "1e99999999999999999999", "0x1p1024"} {
		shapes(t, "POINT ("+n+" "+n+")", 1, nodes([]int{1, 1}), n, n)
		for s, at := range map[string]int{"POINT (@ x)": 8, "POINT (@": 7, "POINT (@ 1) x": 11, "POINT (0 @ 1)": 10, "LINESTRING (@ 0, 1 @ )x": 20} {
			text := strings.ReplaceAll(s, "@", n)
			place := at + strings.Count(s, "@")*len(n)
			if l, m, err := wkt.Shape(text, 1, 999); !isFault(err, place, api.ErrSyntax) || len(l)+len(m) != 0 {
				t.Errorf("P19.2: Shape(%q) = %v, %v, %v, want ErrSyntax at %d", text, l, m, err, place)
			}
		}
		text := "GEOMETRYCOLLECTION (POINT (" + n + " 1), MULTIPOINT (1 2))"
		if l, m, err := wkt.Shape(text, 2, 999); !isFault(err, 44+len(n), api.ErrDepth) || len(l)+len(m) != 0 {
			t.Errorf("P19.2: Shape(%q) = %v, %v, %v, want ErrDepth at %d", text, l, m, err, 44+len(n))
		}
	}
}

// P19.2: the nodes are those that Flat lays of Parse's tree, of as many levels and members as a text may have.
func TestShapeIsFlat(t *testing.T) {
	for _, s := range []string{
		within(255, "POLYGON ((1 2), (3 4))"),
		within(254, "MULTIPOINT (1 2, EMPTY)"),
		"MULTIPOINT(" + strings.Repeat("1 2,", 16000) + "EMPTY)",
		"POLYGON(" + strings.Repeat("(1 2),", 10000) + "(1 2,3 4))",
		"GEOMETRYCOLLECTION(" + strings.Repeat("POINT EMPTY,LINESTRING(1 2),", 2000) + "MULTIPOLYGON EMPTY)",
	} {
		g, err := wkt.Parse(s, 256, math.MaxInt)
		want, bad := tree.Flat(g)
		l, n, worse := wkt.Shape(s, 256, math.MaxInt)
		_, points := tree.Count(g)
		if err != nil || bad != nil || worse != nil || !same(l, want) || len(n) != 2*points {
			t.Errorf("P19.2: Shape(%.60q): %d nodes, %d numerals, %v, want %d, %d", s, len(l), len(n), worse, len(want), 2*points)
		}
	}
}
