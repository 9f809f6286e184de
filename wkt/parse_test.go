package wkt_test

import (
	"math"
	"slices"
	"strings"
	"testing"

	"plumb/api"
	"plumb/sample"
	"plumb/tree"
	"plumb/wkt"
)

const minus = 1 << 63

// oneTwo and threeFour are the places of the chapter's examples.
var oneTwo, threeFour = sample.At(1, 2), sample.At(3, 4)

// takes holds Parse to a tree, with limits that just hold it.
func takes(t *testing.T, s string, want api.Geom) {
	t.Helper()
	depth := tree.Depth(want)
	if g, err := wkt.Parse(s, depth, len(s)); err != nil || !tree.Equal(g, want) || tree.Check(g) != nil {
		t.Errorf("P19.1: Parse(%.99q, %d) = %v, %v, want %v", s, depth, g, err, want)
	}
	if g, err := wkt.Parse(s, depth-1, len(s)); api.Code(err) != api.ErrDepth || !isNothing(g) {
		t.Errorf("P19.1: Parse(%.99q, %d) = %v, %v, want ErrDepth", s, depth-1, g, err)
	}
	if g, err := wkt.Parse(s, depth, len(s)-1); !isFault(err, len(s)-1, api.ErrSize) || !isNothing(g) {
		t.Errorf("P19.1: Parse(%.99q) with a byte less = %v, %v, want ErrSize at %d", s, g, err, len(s)-1)
	}
}

// refuses holds Parse to an error, and Shape, if it isn't ErrRange.
func refuses(t *testing.T, s string, maxDepth int, maxBytes int, at int, code api.Errno) {
	t.Helper()
	if g, err := wkt.Parse(s, maxDepth, maxBytes); !isFault(err, at, code) || !isNothing(g) {
		t.Errorf("P19.1: Parse(%.99q, %d, %d) = %v, %v, want %d at %d", s, maxDepth, maxBytes, g, err, code, at)
	}
	if code == api.ErrRange {
		return
	}
	if l, n, err := wkt.Shape(s, maxDepth, maxBytes); !isFault(err, at, code) || len(l)+len(n) != 0 {
		t.Errorf("P19.2: Shape(%.99q, %d, %d) = %v, %v, %v, want %d at %d", s, maxDepth, maxBytes, l, n, err, code, at)
	}
}

// P19.1: the trees of the chapter's examples, and of the document's.
func TestParseTakes(t *testing.T) {
	for _, s := range []string{"POINT (1 2)", " point\t( 1\n2 ) ", "POINT(1 2)", "\r\nPoInT(+1.0\t\t4/2)\r", "POINT (0x1p0 0X.8P2)", "POINT (10e-1 .2e+1)"} {
		takes(t, s, sample.Point(oneTwo))
	}
	takes(t, "POINT EMPTY", sample.Point())
	takes(t, "pOINT\nempty", sample.Point())
	takes(t, "point(0.1 1/10)", sample.Point(api.Point{X: 0x3fb999999999999a, Y: 0x3fb999999999999a}))
	takes(t, "LINESTRING (1 2)", sample.Line(oneTwo))
	takes(t, "LineString(1 2,3 4 , 1 2)", sample.Line(oneTwo, threeFour, oneTwo))
	takes(t, "LINESTRING EMPTY", sample.Line())
	one := []api.Point{oneTwo}
	takes(t, "POLYGON ((1 2))", sample.Polygon(one))
	takes(t, "POLYGON ((1 2), (3 4))", sample.Polygon(one, []api.Point{threeFour}))
	takes(t, "POLYGON((1 2,3 4),(1 2))", sample.Polygon([]api.Point{oneTwo, threeFour}, one))
	takes(t, "POLYGON EMPTY", sample.Polygon())
	three := sample.Group(api.Points, sample.Point(oneTwo), sample.Point(threeFour), sample.Point())
	takes(t, "MULTIPOINT (1 2, (3 4), EMPTY)", three)
	takes(t, "multipoint((1 2),3 4,empty)", three)
	takes(t, "MULTIPOINT (EMPTY)", sample.Group(api.Points, sample.Point()))
	takes(t, "MULTIPOINT (1 2)", sample.Group(api.Points, sample.Point(oneTwo)))
	takes(t, "MULTIPOINT EMPTY", sample.Group(api.Points))
	takes(t, "MULTILINESTRING (EMPTY, (1 2, 3 4))", sample.Group(api.Lines, sample.Line(), sample.Line(oneTwo, threeFour)))
	takes(t, "MULTILINESTRING EMPTY", sample.Group(api.Lines))
	takes(t, "MULTIPOLYGON (((1 2)), EMPTY)", sample.Group(api.Polygons, sample.Polygon(one), sample.Polygon()))
	takes(t, "MULTIPOLYGON EMPTY", sample.Group(api.Polygons))
	takes(t, "GEOMETRYCOLLECTION EMPTY", sample.Group(api.Collection))
	takes(t, "GEOMETRYCOLLECTION (GEOMETRYCOLLECTION EMPTY)", sample.Deep(2, sample.Group(api.Collection)))
	takes(t, "GEOMETRYCOLLECTION (POINT EMPTY, MULTIPOINT (1 2), point (3 4))",
		sample.Group(api.Collection, sample.Point(), sample.Group(api.Points, sample.Point(oneTwo)), sample.Point(threeFour)))
}

// P19.1: coordinates are rounded once; a zero keeps the numeral's sign; what is just below the middle is no overflow.
func TestParseRounds(t *testing.T) {
	const great = 0x7fefffffffffffff
	for s, want := range map[string]api.Point{
		"1e-999 -1e-999": {Y: minus},
		"-0 -0/7":        {X: minus, Y: minus},
		"+0 -0x0p5":      {Y: minus},
		"9007199254740993 9007199254740993.0000000000000001": {X: 0x4340000000000000, Y: 0x4340000000000001},
		"1.797693134862315807e308 -1.797693134862315807e308": {X: great, Y: great | minus},
		"0x1.fffffffffffff7ffp1023 5e-324":                   {X: great, Y: 1},
		"2.4703282292062327e-324 2.4703282292062328e-324":    {X: 0, Y: 1},
		"1/3 -2/6": {X: 0x3fd5555555555555, Y: 0x3fd5555555555555 | minus},
		"1e-99999999999999999999 0e99999999999999999999": {},
	} {
		takes(t, "POINT ("+s+")", sample.Point(want))
		takes(t, "LINESTRING ("+s+")", sample.Line(want))
		takes(t, "POLYGON (("+s+"))", sample.Polygon([]api.Point{want}))
		takes(t, "MULTIPOINT ("+s+")", sample.Group(api.Points, sample.Point(want)))
	}
}

// P19.1: the chapter's example 2, and other tokens that may not stand where they do, the end among them.
func TestParseSyntax(t *testing.T) {
	for s, at := range map[string]int{
		"": 0, " ": 1, "\t\r\n": 3, "POINT": 5, "POINT ": 6, "POINT ()": 7, "POINT (1)": 8, "POINT (1 2 3)": 11, "POINT (1 2) x": 12, "POINT Z (1 2)": 6,
		"POINT (1, 2)": 8, "CIRCLE (1 2)": 0, "EMPTY": 0, "POINT (1 2": 10, "POINT (1 2  ": 12, "POINT (1": 8, "POINT (": 7, "POINT (1 2,": 10, "POINT (1 2, 3 4)": 10,
		"POINT (nan 0)": 7, "POINT (0 inf)": 9, "POINT 1 2": 6, "POINT (EMPTY)": 7, "POINT ((1 2))": 7, "POINT , (1 2)": 6, "POINT ) (1 2": 6, "POINT POINT (1 2)": 6,
		"POINTZ (1 2)": 0, "POINT ZM (1 2 3 4)": 6, "SRID": 0, "1 2": 0, "(1 2)": 0, ")": 0, ",": 0, "P": 0, "POIN (1 2)": 0, "POINTS (1 2)": 0,
		"POINT (1 2) EMPTY": 12, "POINT EMPTY EMPTY": 12, "POINT EMPTY (1 2)": 12, "POINT EMPTY POINT EMPTY": 12, "POINT (1 2))": 11, "POINT (1 2),": 11, "POINT (1 2) 1e309": 12,
		"LINESTRING": 10, "LINESTRING ()": 12, "LINESTRING (1 2,)": 16, "LINESTRING (1 2": 15, "LINESTRING (1 2,": 16, "LINESTRING (1 2, 3)": 18, "LINESTRING (1 2 3 4)": 16,
		"LINESTRING (EMPTY)": 12, "LINESTRING ((1 2), (3 4))": 12, "LINESTRING (1 2, EMPTY)": 17, "LINESTRING (1 2, (3 4))": 17, "LINESTRING (1 2,, 3 4)": 16, "LINESTRING (,1 2)": 12,
		"POLYGON": 7, "POLYGON ()": 9, "POLYGON (EMPTY)": 9, "POLYGON (1 2)": 9, "POLYGON (())": 10, "POLYGON ((1 2)": 14, "POLYGON ((1 2),": 15, "POLYGON ((1 2),)": 15,
		"POLYGON ((1 2), EMPTY)": 16, "POLYGON ((1 2) (3 4))": 15, "POLYGON (((1 2)))": 10, "POLYGON ((1 2), 3 4)": 16, "POLYGON ((1 2,))": 14,
	} {
		refuses(t, s, 1, 99, at, api.ErrSyntax)
	}
	for s, at := range map[string]int{
		"MULTIPOINT": 10, "MULTIPOINT ()": 12, "MULTIPOINT (": 12, "MULTIPOINT (1)": 13, "MULTIPOINT (1": 13, "MULTIPOINT (1 2 3)": 16, "MULTIPOINT (1 2": 15, "MULTIPOINT (())": 13,
		"MULTIPOINT (1 2,)": 16, "MULTIPOINT ((1 2)": 17, "MULTIPOINT ((1 2, 3 4))": 16, "MULTIPOINT (POINT (1 2))": 12, "MULTIPOINT (POINT EMPTY)": 12, "MULTIPOINT ((EMPTY))": 13,
		"MULTIPOINT (EMPTY EMPTY)": 18, "MULTIPOINT (x": 12, "MULTIPOINT (1 EMPTY)": 14, "MULTIPOINT (1 (2))": 14, "MULTIPOINT ((1 2) 3 4)": 18,
		"MULTILINESTRING (1 2)": 17, "MULTILINESTRING ()": 17, "MULTILINESTRING ((1 2)": 22, "MULTILINESTRING ((EMPTY))": 18, "MULTILINESTRING (LINESTRING (1 2))": 17, "MULTILINESTRING (((1 2)))": 18,
		"MULTIPOLYGON ((1 2))": 15, "MULTIPOLYGON (1 2)": 14, "MULTIPOLYGON ((EMPTY))": 15, "MULTIPOLYGON ((()))": 16, "MULTIPOLYGON (((1 2))": 21, "MULTIPOLYGON (POLYGON EMPTY)": 14,
		"GEOMETRYCOLLECTION ((1 2))": 20, "GEOMETRYCOLLECTION (EMPTY)": 20, "GEOMETRYCOLLECTION ()": 20, "GEOMETRYCOLLECTION (1 2)": 20, "GEOMETRYCOLLECTION (POINT)": 25, "GEOMETRYCOLLECTION": 18,
		"GEOMETRYCOLLECTION (POINT EMPTY": 31, "GEOMETRYCOLLECTION (POINT EMPTY,)": 32, "GEOMETRYCOLLECTION (POINT EMPTY LINESTRING EMPTY)": 32, "GEOMETRYCOLLECTION (CIRCLE EMPTY)": 20,
		"GEOMETRYCOLLECTION POINT EMPTY": 19, "GEOMETRYCOLLECTION (POINT EMPTY, EMPTY)": 33,
	} {
		refuses(t, s, 2, 99, at, api.ErrSyntax)
	}
}

// P19.1: what the reader refuses is told at the reader's place, and ahead of all else that is wrong with that token.
func TestParseTokens(t *testing.T) {
	for s, at := range map[string]int{
		"é": 0, ";": 0, "POINT;": 5, "POINT (1x 2)": 8, "POINT (1 2);": 11, "POINT (1 2) ;": 12, "POINT (1 2)é": 11, "POINT (1-2)": 8, "POINT (1 2;3)": 10, "POINT (1e 2)": 8, "POINT (1e309x 2)": 12,
		"POINT (1/0/ 2)": 10, "POINT (+ 1)": 7, "POINT (- 1)": 7, "POINT (. 1)": 7, "POINT1 (1 2)": 5, "POINT-(1 2)": 5, "CIRCLE1": 6, "POINT\v(1 2)": 5, "POINT\u00a0(1 2)": 5, "POINT EMPTY2": 11,
		"POINT (1 2) 1x": 13, "POINT (1 2) x1": 13, "POINT Z1 (1 2)": 7, "POINT [1 2]": 6, "POINT (0x1 2)": 8, "MULTIPOINT (1x": 13, "MULTIPOINT (EMPTY3": 17, "GEOMETRYCOLLECTION (POINT1": 25,
		"\x00POINT EMPTY": 0, "POINT (1_0 2)": 8, "SRID=4326;POINT (1 2)": 4, "POINT (1 2) --": 12, "POINT (１ 2)": 7, "\u017fPOINT EMPTY": 0, "POINT EMPT\u017f": 10,
	} {
		refuses(t, s, 1, 99, at, api.ErrSyntax)
		refuses(t, " "+s, 1, 99, at+1, api.ErrSyntax)
	}
	// What is wrong farther to the right does not matter.
	refuses(t, "POINT (1e309 ;", 1, 99, 7, api.ErrRange)
	refuses(t, "POINT (1 1/0;", 1, 99, 12, api.ErrSyntax)
	refuses(t, "MULTIPOINT (1 ;", 1, 99, 12, api.ErrDepth)
	refuses(t, "x ;", 1, 99, 0, api.ErrSyntax)
	refuses(t, "POINT ;", 0, 99, 0, api.ErrDepth)
	refuses(t, "POINT;", 0, 99, 5, api.ErrSyntax)
}

// P19.1: a level above the limit is told at the first token of its geometry, if that may stand there.
func TestParseDepth(t *testing.T) {
	for _, kind := range kinds[1:] {
		for _, depth := range []int{0, -1, -256, math.MinInt} {
			refuses(t, "  "+kind+" EMPTY", depth, 99, 2, api.ErrDepth)
			refuses(t, kind, depth, 99, 0, api.ErrDepth)
			refuses(t, kind+" ;", depth, 99, 0, api.ErrDepth)
		}
	}
	for _, depth := range []int{0, -1, math.MinInt} {
		for s, at := range map[string]int{" x": 1, "": 0, " ": 1, "EMPTY": 0, "(": 0, "1": 0, "1e309": 0, ",": 0, "POINT1": 5, "CIRCLE EMPTY": 0} {
			refuses(t, s, depth, 99, at, api.ErrSyntax)
		}
	}
	for s, at := range map[string]int{
		"MULTIPOINT (1 2, (3 4), EMPTY)": 12, "MULTIPOINT ((": 12, "MULTIPOINT (EMPTY)": 12, "MULTIPOINT (1e309 0)": 12, "MULTIPOINT (1/0 0)": 12, "MULTIPOINT ( \n-5": 14,
		"MULTILINESTRING (EMPTY": 17, "MULTILINESTRING ((": 17, "MULTIPOLYGON (empty": 14, "MULTIPOLYGON ((x": 14,
		"GEOMETRYCOLLECTION (GEOMETRYCOLLECTION EMPTY)": 20, "GEOMETRYCOLLECTION (POINT": 20, "GEOMETRYCOLLECTION (\tpolygon x": 21,
	} {
		refuses(t, s, 1, 99, at, api.ErrDepth)
	}
	for s, at := range map[string]int{
		"MULTIPOINT (x": 12, "MULTIPOINT ()": 12, "MULTIPOINT (,": 12, "MULTIPOINT (": 12, "MULTIPOINT (1x": 13, "MULTIPOINT (POINT": 12, "MULTILINESTRING (1 2)": 17, "MULTILINESTRING ()": 17,
		"MULTIPOLYGON (1": 14, "MULTIPOLYGON (POLYGON": 14, "GEOMETRYCOLLECTION (EMPTY)": 20, "GEOMETRYCOLLECTION ((": 20, "GEOMETRYCOLLECTION (1": 20, "GEOMETRYCOLLECTION (POINT1": 25,
	} {
		refuses(t, s, 1, 99, at, api.ErrSyntax)
	}
	refuses(t, "GEOMETRYCOLLECTION (POINT (1 2), MULTIPOINT EMPTY, MULTIPOINT (3 4))", 2, 99, 63, api.ErrDepth)
	refuses(t, "GEOMETRYCOLLECTION (MULTIPOLYGON EMPTY, MULTIPOLYGON (((1 2)), EMPTY))", 2, 99, 54, api.ErrDepth)
}

// within gives a text within so many collections.
func within(n int, s string) string {
	return strings.Repeat("GEOMETRYCOLLECTION(", n) + s + strings.Repeat(")", n)
}

// P19.1: no more than 256 levels, whatever the caller allows; a ring is no level.
func TestParseDeepest(t *testing.T) {
	for _, c := range []struct {
		inner string
		tree  api.Geom
		first int // where its deepest part begins
	}{
		{"POINT EMPTY", sample.Point(), 0},
		{"POLYGON ((1 2))", sample.Polygon([]api.Point{oneTwo}), 0},
		{"MULTILINESTRING EMPTY", sample.Group(api.Lines), 0},
		{"multipoint ( EMPTY,1 2)", sample.Group(api.Points, sample.Point(), sample.Point(oneTwo)), 13},
		{"MULTIPOINT (1 2, EMPTY)", sample.Group(api.Points, sample.Point(oneTwo), sample.Point()), 12},
		{"MULTIPOLYGON(((1 2)))", sample.Group(api.Polygons, sample.Polygon([]api.Point{oneTwo})), 13},
	} {
		most := 256 - tree.Depth(c.tree)
		for _, around := range []int{0, 1, 2, most - 1, most} {
			takes(t, within(around, c.inner), sample.Deep(around+1, c.tree))
		}
		for _, limit := range []int{256, 257, 999, math.MaxInt} {
			if g, err := wkt.Parse(within(most, c.inner), limit, math.MaxInt); err != nil || !tree.Equal(g, sample.Deep(most+1, c.tree)) {
				t.Errorf("P19.1: 256 levels around %q, with maxDepth %d: %v", c.inner, limit, err)
			}
			refuses(t, within(most+1, c.inner), limit, math.MaxInt, 19*(most+1)+c.first, api.ErrDepth)
		}
	}
	// Far deeper than that, and never shut.
	refuses(t, strings.Repeat("GEOMETRYCOLLECTION(", 3449), math.MaxInt, math.MaxInt, 256*19, api.ErrDepth)
	refuses(t, strings.Repeat("(", 65536), 256, math.MaxInt, 0, api.ErrSyntax)
	refuses(t, "POLYGON"+strings.Repeat("(", 65529), 256, math.MaxInt, 9, api.ErrSyntax)
}

// P19.1: a numeral that has no pattern is told, where it may stand; one that may not stand there is misplaced.
func TestParseRange(t *testing.T) {
	for _, n := range []string{"1e309", "-1e309", "1/0", "-1/0", "0/0", "1.797693134862315808e308", "-0x1p1024", "0x1.fffffffffffff8p1023", "2e308", "1e1073741824", "1e99999999999999999999",
		"1" + strings.Repeat("0", 309), "1" + strings.Repeat("0", 400) + "/3", "+00/00"} {
		for s, at := range map[string]int{
			"POINT (@ 0)": 7, "POINT (0 @)": 9, "POINT (@ x)": 7, "POINT (@": 7, "POINT (@ @)": 7, "LINESTRING (@ 0)": 12, "LINESTRING (1 2, 3 4, 5 @)": 24, "POLYGON ((1 2), (3 @, ": 19,
			"MULTIPOINT (@ 0)": 12, "MULTIPOINT ((@ 0))": 13, "MULTIPOINT (EMPTY, 1 @": 21, "MULTILINESTRING (EMPTY, (@": 25, "MULTIPOLYGON (((@": 16, "GEOMETRYCOLLECTION (POINT (@ 1))": 27,
		} {
			refuses(t, strings.ReplaceAll(s, "@", n), 2, 9999, at, api.ErrRange)
		}
		for s, at := range map[string]int{
			"@": 0, "POINT @": 6, "POINT (1 2 @)": 11, "POINT (1 2) @": 12, "POINT (1 2, @": 10, "MULTILINESTRING (@ 0)": 17, "MULTIPOLYGON ((@": 15, "POLYGON (@": 9, "GEOMETRYCOLLECTION (@": 20,
		} {
			refuses(t, strings.ReplaceAll(s, "@", n), 2, 9999, at, api.ErrSyntax)
		}
		refuses(t, "MULTIPOINT ("+n+" 0)", 1, 9999, 12, api.ErrDepth)
		refuses(t, "POINT ("+n+" 0)", 0, 9999, 0, api.ErrDepth)
		refuses(t, "POINT ("+n+"x 0)", 1, 9999, 7+len(n), api.ErrSyntax)
	}
}

// P19.1: more bytes than the least limit, ahead of all else.
func TestParseSize(t *testing.T) {
	for _, s := range []string{"POINT EMPTY", "é;;;;", "POINT (1e309 x", "          ", "x"} {
		for n := range s {
			refuses(t, s, 1, n, n, api.ErrSize)
			refuses(t, s, -1, n, n, api.ErrSize)
		}
		for _, n := range []int{-1, -7, -65536, math.MinInt} {
			refuses(t, s, 1, n, 0, api.ErrSize)
		}
	}
	for _, n := range []int{0, -1, math.MinInt} {
		refuses(t, "", 1, n, 0, api.ErrSyntax)
	}
	long := "POINT EMPTY" + strings.Repeat(" ", api.MaxText-11)
	for _, n := range []int{65536, 65537, math.MaxInt} {
		if g, err := wkt.Parse(long, 1, n); err != nil || !tree.Equal(g, sample.Point()) {
			t.Errorf("P19.1: 65536 bytes with maxBytes %d: %v, %v", n, g, err)
		}
		refuses(t, long+" ", 1, n, 65536, api.ErrSize)
		refuses(t, strings.Repeat(";", 1<<20), 1, n, 65536, api.ErrSize)
	}
	refuses(t, long, 1, 65535, 65535, api.ErrSize)
	refuses(t, long+" ", 1, 65535, 65535, api.ErrSize)
	refuses(t, strings.Repeat(" ", api.MaxText), 1, math.MaxInt, api.MaxText, api.ErrSyntax)
}

// P19.1: the texts of most members that 65536 bytes hold give trees.
func TestParseMost(t *testing.T) {
	full := func(head string, member string, tail string) (string, int) {
		n := (api.MaxText - len(head) - len(tail) + 1) / (len(member) + 1)
		return head + strings.Repeat(member+",", n-1) + member + tail, n
	}
	s, n := full("LINESTRING(", "1 2", ")")
	takes(t, s, sample.Line(slices.Repeat([]api.Point{oneTwo}, n)...))
	s, n = full("POLYGON(", "(1 2)", ")")
	takes(t, s, sample.Polygon(slices.Repeat([][]api.Point{{oneTwo}}, n)...))
	s, n = full("MULTIPOINT(", "1 2", ")")
	takes(t, s, sample.Group(api.Points, slices.Repeat([]api.Geom{sample.Point(oneTwo)}, n)...))
	s, n = full("MULTILINESTRING(", "EMPTY", ")")
	takes(t, s, sample.Group(api.Lines, slices.Repeat([]api.Geom{sample.Line()}, n)...))
	s, n = full("GEOMETRYCOLLECTION(", "POINT EMPTY", ")")
	takes(t, s, sample.Group(api.Collection, slices.Repeat([]api.Geom{sample.Point()}, n)...))
}

// P0.1: texts of very long numerals, or of very many that are hard to round, are read to their end.
func TestParseEnds(t *testing.T) {
	nines := strings.Repeat("9", 32700)
	for _, s := range []string{
		"POINT (" + nines + " " + nines + ")",
		"POINT (0." + nines + " ." + nines + "e-300)",
		"POINT (" + nines + "/" + nines + " 0)",
		"POINT (1e" + nines + " 1)",
		"POINT (1e-" + nines + " -1e-" + nines + ")",
		strings.Repeat("POINT ", 10000),
		strings.Repeat("P", 65536),
		"LINESTRING (" + strings.Repeat("2.4703282292062327e-324 9007199254740993,", 1500) + "1/3 2/7)",
	} {
		holds(t, s, 256, api.MaxText)
	}
	// The library's road holds such exponents at a bound of its own.
	takes(t, "POINT (0x"+nines+"p-130800 0x"+nines+"p-200000)", sample.Point(api.Point{X: 0x3fe3333333333333}))
}
