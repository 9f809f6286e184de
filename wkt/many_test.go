package wkt_test

import (
	"math"
	"slices"
	"strings"
	"testing"

	"plumb/api"
	"plumb/sample"
	"plumb/tree"
	"plumb/wkt"
)

// takesMany holds Many to trees, with a limit of bytes that just holds the text.
func takesMany(t *testing.T, s string, depth int, want ...api.Geom) {
	t.Helper()
	if l, err := wkt.Many(s, depth, len(s)); err != nil || !slices.EqualFunc(l, want, tree.Equal) {
		t.Errorf("P19.3: Many(%.99q, %d) = %v, %v, want %v", s, depth, l, err, want)
	}
	if s != "" {
		refusesMany(t, s, depth, len(s)-1, len(s)-1, api.ErrSize)
	}
}

// refusesMany holds Many to an error.
func refusesMany(t *testing.T, s string, maxDepth int, maxBytes int, at int, code api.Errno) {
	t.Helper()
	if l, err := wkt.Many(s, maxDepth, maxBytes); !isFault(err, at, code) || len(l) != 0 {
		t.Errorf("P19.3: Many(%.99q, %d, %d) = %v, %v, want %d at %d", s, maxDepth, maxBytes, l, err, code, at)
	}
}

// P19.3: the chapter's example 8, what is taken of it, and blanks anywhere.
func TestManyTakes(t *testing.T) {
	p, empty := sample.Point(oneTwo), sample.Point()
	takesMany(t, "POINT (1 2);point empty", 1, p, empty)
	takesMany(t, "POINT (1 2)", 1, p)
	takesMany(t, " POINT(1 2) \n;\t POINT(1 2);POINT EMPTY\r", 1, p, p, empty)
	takesMany(t, "MULTIPOINT (1 2, EMPTY);LINESTRING (1 2, 3 4)", 2, sample.Group(api.Points, p, empty), sample.Line(oneTwo, threeFour))
	for _, blanks := range []string{"", " ", "\t", "\n", "\r", " \n", "\r\n\t  "} {
		for _, depth := range []int{math.MinInt, -1, 0, 1, 256, math.MaxInt} {
			takesMany(t, blanks, depth)
		}
	}
	takesMany(t, strings.Repeat(" ", api.MaxText), 0)
}

// P19.3: the first piece that is refused, its place counted in the whole text.
func TestManyRefuses(t *testing.T) {
	for s, at := range map[string]int{
		"POINT (1 2);": 12, ";": 0, "POINT (1 2;POINT EMPTY": 10, "POINT EMPTY ; ;POINT EMPTY": 14, ";;": 0, " ;": 1, "\n\t ; ;": 3, "; ": 0, "POINT EMPTY; ": 13, "POINT EMPTY;;x": 12,
		"POINT EMPTY;x": 12, "POINT EMPTY;POINT (1 2) 3": 24, "POINT EMPTY; POINT": 18, "POINT EMPTY;POINT;x": 17, "POINT;": 5, "POINT ;": 6, "POINT EMPTY;POINT (1 2": 22, "x;POINT EMPTY": 0,
		"POINT EMPTY,POINT EMPTY": 11, "POINT EMPTY;POINT (1x 2);;": 20, "POINT EMPTY;é": 12, "é": 0, "\u00a0": 0, "\v": 0, "POINT EMPTY;POINT EMPTY;POINT (;)": 31, "POINT (1;2)": 8,
		"POINT EMPTY;EMPTY": 12, "POINT EMPTY POINT EMPTY": 12, "POINT EMPTY:POINT EMPTY": 11, "POINT (1;1e309)": 8,
	} {
		refusesMany(t, s, 1, 99, at, api.ErrSyntax)
	}
	for s, at := range map[string]int{"POINT EMPTY;POINT (1e309 0)": 19, "POINT (1/0 2);x": 7, "POINT EMPTY;POINT EMPTY;POINT (0 -1e309;": 33, "POINT EMPTY; POINT (0/0;;": 20} {
		refusesMany(t, s, 1, 99, at, api.ErrRange)
	}
	for s, at := range map[string]int{"POINT EMPTY;MULTIPOINT (1 2)": 24, "MULTIPOINT ((;": 12, "POINT EMPTY;\nGEOMETRYCOLLECTION (POINT;": 33} {
		refusesMany(t, s, 1, 99, at, api.ErrDepth)
	}
	for s, at := range map[string]int{"POINT EMPTY": 0, " POINT EMPTY;x": 1, "POINT;": 0} {
		refusesMany(t, s, 0, 99, at, api.ErrDepth)
	}
	refusesMany(t, " x;POINT EMPTY", 0, 99, 1, api.ErrSyntax)
}

// P19.3: the limit of bytes is that of the whole text, and comes first; a piece has none of its own.
func TestManySize(t *testing.T) {
	for _, s := range []string{"POINT EMPTY;POINT EMPTY", ";;;", "   ", "x;y", "POINT (1e309 2);"} {
		for n := range s {
			refusesMany(t, s, 1, n, n, api.ErrSize)
			refusesMany(t, s, 0, n, n, api.ErrSize)
		}
		for _, n := range []int{-1, -99, math.MinInt} {
			refusesMany(t, s, 1, n, 0, api.ErrSize)
		}
	}
	for _, n := range []int{0, -1, math.MinInt} {
		takesMany(t, "", 1)
		if l, err := wkt.Many("", 1, n); err != nil || len(l) != 0 {
			t.Errorf("P19.3: Many of no byte with maxBytes %d: %v, %v", n, l, err)
		}
	}
	one := "POINT EMPTY" + strings.Repeat(" ", api.MaxText-11)
	full := strings.Repeat("POINT EMPTY;", 5460) + "POINT EMPTY" + strings.Repeat(" ", 5)
	for _, n := range []int{65536, 65537, math.MaxInt} {
		if l, err := wkt.Many(one, 1, n); err != nil || len(l) != 1 {
			t.Errorf("P19.3: one of 65536 bytes: %d, %v", len(l), err)
		}
		if l, err := wkt.Many(full, 1, n); err != nil || len(l) != 5461 {
			t.Errorf("P19.3: %d bytes: %d, %v", len(full), len(l), err)
		}
		refusesMany(t, one+" ", 1, n, 65536, api.ErrSize)
		refusesMany(t, full+strings.Repeat(" ", 65537-len(full)), 1, n, 65536, api.ErrSize)
		refusesMany(t, strings.Repeat(";", 65537), 1, n, 65536, api.ErrSize)
		refusesMany(t, strings.Repeat(" ", 65537), 1, n, 65536, api.ErrSize)
	}
	refusesMany(t, strings.Repeat(";", 65536), 1, math.MaxInt, 0, api.ErrSyntax)
	refusesMany(t, full[:65531]+";", 1, math.MaxInt, 65532, api.ErrSyntax)
}

// P19.3: each piece has all levels that a text may have.
func TestManyDeep(t *testing.T) {
	deep := within(255, "POINT EMPTY")
	g := sample.Deep(256, sample.Point())
	takesMany(t, deep+";"+deep+" ; POINT EMPTY;"+deep, 999, g, g, sample.Point(), g)
	over := within(256, "POINT EMPTY")
	refusesMany(t, deep+";"+over+";"+deep, 999, math.MaxInt, len(deep)+1+256*19, api.ErrDepth)
}

// P19.3: texts of many, most of them wrong somewhere, against the plain way.
func TestManyAgainstThePlainWay(t *testing.T) {
	rule := sample.Rule(193)
	seen := map[api.Errno]int{}
	for range 15000 {
		var tokens []string
		for i := range rule.Below(5) {
			if i > 0 {
				tokens = append(tokens, ";")
			}
			tokens = append(tokens, texts(&rule, rule.Tree(1+rule.Below(2)))...)
		}
		if rule.Below(2) == 0 {
			tokens = changed(&rule, tokens)
		}
		s := joined(&rule, tokens)
		most := api.MaxText
		if rule.Below(20) == 0 {
			most = len(s) - rule.Below(2)
		}
		seen[api.Code(holdsMany(t, s, 1+rule.Below(4), most))]++
	}
	for _, e := range []api.Errno{api.OK, api.ErrSize, api.ErrSyntax, api.ErrDepth, api.ErrRange} {
		if seen[e] < 20 {
			t.Errorf("only %d of the error %d", seen[e], e)
		}
	}
}
