package codec_test

import (
	"math"
	"slices"
	"strings"
	"testing"

	"plumb/api"
	"plumb/codec"
	"plumb/print"
	"plumb/sample"
	"plumb/tree"
	"plumb/wkb"
	"plumb/wkt"
)

// oneTwo is POINT (1 2).
var oneTwo = sample.Point(sample.At(1, 2))

const (
	bigOneTwo    = "00 00000001 3ff0000000000000 4000000000000000"
	littleOneTwo = "01 01000000 000000000000f03f 0000000000000040"
)

// P21.1: what the document says of the four calls by example.
func TestFaces(t *testing.T) {
	if g, err := codec.ParseWKT([]byte("POINT (1 2)"), 1, 11); err != nil || !tree.Equal(g, oneTwo) {
		t.Errorf("P21.1: ParseWKT: %v, %v", g, err)
	}
	if g, err := codec.ParseWKB(hexa(t, littleOneTwo), 1, 21); err != nil || !tree.Equal(g, oneTwo) {
		t.Errorf("P21.1: ParseWKB: %v, %v", g, err)
	}
	for _, c := range []struct {
		text        string
		depth, most int
		at          int
		code        api.Errno
	}{
		{"POINT (1 2)", 1, 10, 10, api.ErrSize},
		{"POINT (1 2)", 1, -3, 0, api.ErrSize},
		{"", 1, 0, 0, api.ErrSyntax},
		{"POINT (1e999 0)", 1, 99, 7, api.ErrRange},
		{"POINT (1/0 0)", 1, 99, 7, api.ErrRange},
		{"POINT (1 2)", 0, 99, 0, api.ErrDepth},
		{"POINT (1 \xff)", 1, 99, 9, api.ErrSyntax},
		{"POINT (1 2)\x00", 1, 99, 11, api.ErrSyntax},
		{"GEOMETRYCOLLECTION (GEOMETRYCOLLECTION EMPTY)", 1, 99, 20, api.ErrDepth},
	} {
		if g, err := codec.ParseWKT([]byte(c.text), c.depth, c.most); !isFault(err, c.at, c.code) || !isNothing(g) {
			t.Errorf("P21.1: ParseWKT(%q, %d, %d): %v, %v, want %d at %d", c.text, c.depth, c.most, g, err, c.code, c.at)
		}
	}
	for _, c := range []struct {
		bytes       string
		depth, most int
		at          int
		code        api.Errno
	}{
		{"01 07000000 ffffffff", 9, 100, 5, api.ErrCount},
		{bigOneTwo + "00", 9, 100, 21, api.ErrTrail},
		{bigOneTwo, 9, 20, 20, api.ErrSize},
		{bigOneTwo, 0, 99, 0, api.ErrDepth},
		{"", 9, 9, 0, api.ErrEnd},
	} {
		if g, err := codec.ParseWKB(hexa(t, c.bytes), c.depth, c.most); !isFault(err, c.at, c.code) || !isNothing(g) {
			t.Errorf("P21.1: ParseWKB(%s, %d, %d): %v, %v, want %d at %d", c.bytes, c.depth, c.most, g, err, c.code, c.at)
		}
	}
	for mode, want := range map[int]string{1: "POINT (1 2)", 2: "POINT (0x1p+0 0x1p+1)", 3: "POINT (1e+00 2e+00)"} {
		if s, err := codec.PrintWKT(oneTwo, mode); err != nil || string(s) != want {
			t.Errorf("P21.1: PrintWKT(%d): %q, %v, want %q", mode, s, err, want)
		}
	}
	for little, want := range map[bool]string{false: bigOneTwo, true: littleOneTwo} {
		if b, err := codec.PrintWKB(oneTwo, little); err != nil || !slices.Equal(b, hexa(t, want)) {
			t.Errorf("P21.1: PrintWKB(%t): %x, %v, want %s", little, b, err, want)
		}
	}
	for _, mode := range []int{0, 4, -1, math.MaxInt} {
		if s, err := codec.PrintWKT(api.Geom{}, mode); !isFault(err, 0, api.ErrPrint) || len(s) != 0 {
			t.Errorf("P21.1: PrintWKT, mode %d: %q, %v", mode, s, err)
		}
	}
}

// P21.1: the answers and the errors are those of the layers below, whatever is handed in.
func TestFacesAreThoseBelow(t *testing.T) {
	rule := sample.Rule(211)
	refused, taken := 0, 0
	for range 20000 {
		g := rule.Tree(1 + rule.Below(4))
		depth := rule.Below(6)
		text, _ := print.Text(g, modes[rule.Below(3)])
		s := []byte(text)
		b, _ := wkb.Mixed(g, []bool{rule.Below(2) == 0, rule.Below(2) == 0})
		if rule.Below(2) == 0 {
			s, b = changed(&rule, s), changed(&rule, b)
		}
		most := max(len(s), len(b)) + 1 - rule.Below(4)
		want, wrong := wkt.Parse(string(s), depth, most)
		if got, err := codec.ParseWKT(s, depth, most); !isLike(err, wrong) || !tree.Equal(got, want) {
			t.Fatalf("P21.1: ParseWKT(%q, %d, %d): %v, %v, want %v, %v", s, depth, most, got, err, want, wrong)
		}
		want, bad := wkb.Parse(b, depth, most)
		if got, err := codec.ParseWKB(b, depth, most); !isLike(err, bad) || !tree.Equal(got, want) {
			t.Fatalf("P21.1: ParseWKB(%x, %d, %d): %v, %v, want %v, %v", b, depth, most, got, err, want, bad)
		}
		if wrong == nil && bad == nil {
			taken++
		} else if wrong != nil && bad != nil {
			refused++
		}
	}
	if refused < 1000 || taken < 1000 {
		t.Errorf("%d refused, %d taken", refused, taken)
	}
	for range 5000 {
		g := rule.Geom(1 + rule.Below(3))
		if rule.Below(2) == 0 {
			g = rule.Tree(3)
		}
		mode, little := rule.Below(5), rule.Below(2) == 0
		want, wrong := print.Text(g, mode)
		if got, err := codec.PrintWKT(g, mode); !isLike(err, wrong) || string(got) != want {
			t.Fatalf("P21.1: PrintWKT(%v, %d): %q, %v, want %q, %v", g, mode, got, err, want, wrong)
		}
		bytes, wrong := wkb.Print(g, little)
		if got, err := codec.PrintWKB(g, little); !isLike(err, wrong) || !slices.Equal(got, bytes) {
			t.Fatalf("P21.1: PrintWKB(%v, %t): %x, %v, want %x, %v", g, little, got, err, bytes, wrong)
		}
	}
}

// P21.4: one text, however it was written; and the errors of texts.
func TestCanon(t *testing.T) {
	for in, want := range map[string]string{
		"point ( 1.0 +2e0 )":                             "POINT (1 2)",
		"multipoint(1 2)":                                "MULTIPOINT ((1 2))",
		"polygon((0 0,1/2 0,0x1p-1 1,0 0))":              "POLYGON ((0 0, 0.5 0, 0.5 1, 0 0))",
		"geometrycollection empty":                       "GEOMETRYCOLLECTION EMPTY",
		"POINT(-0 -0/7)":                                 "POINT (-0 -0)",
		"\tLineString\n(1 2,\r3 4 ) ":                    "LINESTRING (1 2, 3 4)",
		"POINT (4.9406564584124654e-324 1e22)":           "POINT (5e-324 1e+22)",
		"GEOMETRYCOLLECTION(POINT EMPTY,POINT(1/10 .1))": "GEOMETRYCOLLECTION (POINT EMPTY, POINT (0.1 0.1))",
	} {
		if s, err := codec.Canon([]byte(in), 2); err != nil || string(s) != want {
			t.Errorf("P21.4: Canon(%q) = %q, %v, want %q", in, s, err, want)
		}
	}
	for _, c := range []struct {
		in    string
		depth int
		at    int
		code  api.Errno
	}{
		{"", 9, 0, api.ErrSyntax},
		{"POINT (1 2", 9, 10, api.ErrSyntax},
		{"POINT (1 1e309)", 9, 9, api.ErrRange},
		{"MULTIPOINT (1 2)", 1, 12, api.ErrDepth},
		{"POINT (1 2)", 0, 0, api.ErrDepth},
		{"POINT (1 2)", math.MinInt, 0, api.ErrDepth},
		{"POINT (1 2)" + strings.Repeat(" ", api.MaxText-10), 9, api.MaxText, api.ErrSize},
	} {
		if s, err := codec.Canon([]byte(c.in), c.depth); !isFault(err, c.at, c.code) || len(s) != 0 {
			t.Errorf("P21.4: Canon(%.40q, %d) = %q, %v, want %d at %d", c.in, c.depth, s, err, c.code, c.at)
		}
	}
	most := "POINT (1 2)" + strings.Repeat(" ", api.MaxText-11)
	if s, err := codec.Canon([]byte(most), math.MaxInt); err != nil || string(s) != "POINT (1 2)" {
		t.Errorf("P21.4: Canon of 65536 bytes = %q, %v", s, err)
	}
}

// P21.5: trees are compared pattern by pattern; the first text's error is told ahead of the second's.
func TestSame(t *testing.T) {
	for _, c := range []struct {
		s, t string
		want bool
	}{
		{"POINT (0.1 0)", "POINT (1/10 0)", true},
		{"POINT (0.1 0)", "POINT (1/10 -0)", false},
		{"POINT (0 0)", "point(1e-999 0x0p0)", true},
		{"POINT (1 2)", "POINT (2 1)", false},
		{"POINT (1 2)", "POINT (1 2.0000000000000000001)", true},
		{"POINT (1 2)", "POINT (1 2.000000000000001)", false},
		{"MULTIPOINT (1 2)", "multipoint ((1 2))", true},
		{"MULTIPOINT (1 2, EMPTY)", "MULTIPOINT (EMPTY, 1 2)", false},
		{"POINT EMPTY", "LINESTRING EMPTY", false},
		{"POINT EMPTY", "POINT (0 0)", false},
		{"LINESTRING (1 2)", "POINT (1 2)", false},
		{"POLYGON ((1 2, 3 4))", "POLYGON ((1 2), (3 4))", false},
		{"GEOMETRYCOLLECTION (POINT (1 2))", "MULTIPOINT (1 2)", false},
	} {
		for _, pair := range [][2]string{{c.s, c.t}, {c.t, c.s}} {
			if is, err := codec.Same([]byte(pair[0]), []byte(pair[1]), 2); err != nil || is != c.want {
				t.Errorf("P21.5: Same(%q, %q) = %t, %v, want %t", pair[0], pair[1], is, err, c.want)
			}
		}
	}
	long := "POINT (1 2)" + strings.Repeat(" ", api.MaxText-10)
	for _, c := range []struct {
		s, t  string
		depth int
		at    int
		code  api.Errno
	}{
		{"POINT (1 2", "x", 9, 10, api.ErrSyntax},
		{"x", "POINT (1 2", 9, 0, api.ErrSyntax},
		{"POINT (1 2)", "POINT (1 1e309)", 9, 9, api.ErrRange},
		{"POINT (1e309 1)", "POINT (1 1e309)", 9, 7, api.ErrRange},
		{"POINT (1 2", "POINT (1 2", 9, 10, api.ErrSyntax},
		{"POINT (1 2)", "MULTIPOINT (1 2)", 1, 12, api.ErrDepth},
		{"MULTIPOINT (1 2)", "x", 1, 12, api.ErrDepth},
		{long, "x", 1, api.MaxText, api.ErrSize},
		{"POINT (1 2)", long, 1, api.MaxText, api.ErrSize},
	} {
		if is, err := codec.Same([]byte(c.s), []byte(c.t), c.depth); !isFault(err, c.at, c.code) || is {
			t.Errorf("P21.5: Same(%.40q, %.40q, %d) = %t, %v, want %d at %d", c.s, c.t, c.depth, is, err, c.code, c.at)
		}
	}
}

// P21.6: which formats read what.
func TestGuess(t *testing.T) {
	twoOrders := "00 00000007 00000001" + littleOneTwo
	for _, c := range []struct {
		what  []byte
		depth int
		want  []int
	}{
		{[]byte("POINT (1 2)"), 1, []int{1, 2}},
		{[]byte("POINT (0x1p+0 0x1p+1)"), 1, []int{1, 2}},
		{[]byte("POINT (1 2)"), 0, nil},
		{[]byte("POINT (1 2"), 1, nil},
		{hexa(t, bigOneTwo), 1, []int{3}},
		{hexa(t, bigOneTwo), 0, nil},
		{hexa(t, littleOneTwo), 1, []int{4}},
		{hexa(t, littleOneTwo+"00"), 1, nil},
		{[]byte(strings.ReplaceAll(littleOneTwo, " ", "")), 1, []int{5}},
		{[]byte(strings.ReplaceAll(bigOneTwo, " ", "")), 1, []int{5}},
		{[]byte(strings.ReplaceAll(bigOneTwo, " ", "")), 0, nil},
		{[]byte(littleOneTwo), 1, nil},
		{[]byte(strings.ToUpper(strings.ReplaceAll(twoOrders, " ", ""))), 2, []int{5}},
		{hexa(t, twoOrders), 2, nil},
		{hexa(t, "00 00000007 00000001"+bigOneTwo), 2, []int{3}},
		{hexa(t, "01 07000000 01000000"+littleOneTwo), 2, []int{4}},
		{hexa(t, "01 07000000 01000000"+littleOneTwo), 1, nil},
		{nil, 9, nil},
		{[]byte(" "), 9, nil},
		{[]byte("é"), 9, nil},
	} {
		if got := codec.Guess(c.what, c.depth); !slices.Equal(got, c.want) {
			t.Errorf("P21.6: Guess(%q, %d) = %v, want %v", c.what, c.depth, got, c.want)
		}
	}
}
