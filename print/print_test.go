package print_test

import (
	"math"
	"slices"
	"strings"
	"testing"

	"plumb/api"
	"plumb/print"
	"plumb/sample"
	"plumb/tree"
	"plumb/wkt"
)

// of gives a point of two numbers.
func of(x float64, y float64) api.Point {
	return api.Point{X: math.Float64bits(x), Y: math.Float64bits(y)}
}

// ring and hole are rings, line is a line string.
var (
	ring = []api.Point{sample.At(0, 0), sample.At(4, 0), sample.At(0, 4), sample.At(0, 0)}
	hole = []api.Point{sample.At(1, 1), sample.At(2, 1), sample.At(1, 2), sample.At(1, 1)}
	line = sample.Line(sample.At(0, 0), sample.At(1, 1), sample.At(2, 0))
)

// P20.1, P20.3: every kind with members and without, in each mode.
func TestText(t *testing.T) {
	minus := math.Copysign(0, -1)
	point := sample.Point(sample.At(1, 2))
	for _, c := range []struct {
		g    api.Geom
		mode int
		want string
	}{
		{point, 1, "POINT (1 2)"},
		{point, 2, "POINT (0x1p+0 0x1p+1)"},
		{point, 3, "POINT (1e+00 2e+00)"},
		{sample.Point(), 1, "POINT EMPTY"},
		{sample.Point(), 2, "POINT EMPTY"},
		{sample.Point(), 3, "POINT EMPTY"},
		{sample.Point(of(minus, 0.1)), 1, "POINT (-0 0.1)"},
		{sample.Point(of(minus, 0)), 2, "POINT (-0x0p+0 0x0p+0)"},
		{sample.Point(of(0, minus)), 3, "POINT (0e+00 -0e+00)"},
		{sample.Point(of(1e21, 1e20)), 1, "POINT (1e+21 100000000000000000000)"},
		{sample.Point(of(1e-6, -1e-7)), 1, "POINT (0.000001 -1e-07)"},
		{sample.Point(api.Point{X: 1, Y: 0x7fefffffffffffff}), 1, "POINT (5e-324 1.7976931348623157e+308)"},
		{sample.Point(api.Point{X: 1, Y: 0x7fefffffffffffff}), 2, "POINT (0x1p-1074 0x1.fffffffffffffp+1023)"},
		{line, 1, "LINESTRING (0 0, 1 1, 2 0)"},
		{line, 2, "LINESTRING (0x0p+0 0x0p+0, 0x1p+0 0x1p+0, 0x1p+1 0x0p+0)"},
		{line, 3, "LINESTRING (0e+00 0e+00, 1e+00 1e+00, 2e+00 0e+00)"},
		{sample.Line(sample.At(7, -8)), 1, "LINESTRING (7 -8)"},
		{sample.Line(), 1, "LINESTRING EMPTY"},
		{sample.Polygon(ring, hole), 1, "POLYGON ((0 0, 4 0, 0 4, 0 0), (1 1, 2 1, 1 2, 1 1))"},
		{sample.Polygon(ring[1:2]), 1, "POLYGON ((4 0))"},
		{sample.Polygon(), 1, "POLYGON EMPTY"},
		{sample.Group(4, point, sample.Point(), sample.Point(sample.At(3, 4))), 1, "MULTIPOINT ((1 2), EMPTY, (3 4))"},
		{sample.Group(4, sample.Point()), 1, "MULTIPOINT (EMPTY)"},
		{sample.Group(4), 1, "MULTIPOINT EMPTY"},
		{sample.Group(5, sample.Line(sample.At(0, 0), sample.At(1, 1)), sample.Line()), 1, "MULTILINESTRING ((0 0, 1 1), EMPTY)"},
		{sample.Group(5), 1, "MULTILINESTRING EMPTY"},
		{sample.Group(6, sample.Polygon(hole), sample.Polygon()), 1, "MULTIPOLYGON (((1 1, 2 1, 1 2, 1 1)), EMPTY)"},
		{sample.Group(6, sample.Polygon(ring[:1], hole[:1]), sample.Polygon(hole[1:3])), 1, "MULTIPOLYGON (((0 0), (1 1)), ((2 1, 1 2)))"},
		{sample.Group(6), 1, "MULTIPOLYGON EMPTY"},
		{sample.Group(7, point, sample.Group(7)), 1, "GEOMETRYCOLLECTION (POINT (1 2), GEOMETRYCOLLECTION EMPTY)"},
		{sample.Group(7, sample.Group(4, point), sample.Group(5, sample.Line()), sample.Group(6)), 1,
			"GEOMETRYCOLLECTION (MULTIPOINT ((1 2)), MULTILINESTRING (EMPTY), MULTIPOLYGON EMPTY)"},
		{sample.Group(7, sample.Polygon(), sample.Line(), sample.Point()), 1, "GEOMETRYCOLLECTION (POLYGON EMPTY, LINESTRING EMPTY, POINT EMPTY)"},
		{sample.Group(7), 1, "GEOMETRYCOLLECTION EMPTY"},
	} {
		if got, err := print.Text(c.g, c.mode); err != nil || got != c.want {
			t.Errorf("P20.1: Text(%v, %d) = %q, %v, want %q", c.g, c.mode, got, err, c.want)
		}
		if n, err := print.Length(c.g, c.mode); err != nil || n != len(c.want) {
			t.Errorf("P20.3: Length(%v, %d) = %d, %v, want %d", c.g, c.mode, n, err, len(c.want))
		}
	}
	// A list that is empty, not nil, is none, too.
	bare := api.Geom{Kind: api.APoint, Line: []api.Point{}, Rings: [][]api.Point{}, Parts: []api.Geom{}}
	if got, err := print.Text(bare, 1); err != nil || got != "POINT EMPTY" {
		t.Errorf("P20.1: Text of a point with empty lists = %q, %v", got, err)
	}
}

// P20.2: where lines end, at widths beside those at which one more piece goes in.
func TestPretty(t *testing.T) {
	group := sample.Group(7, sample.Group(4, sample.Point(sample.At(1, 2)), sample.Point()), sample.Line(), sample.Polygon(ring[:1], ring[:1]))
	for _, c := range []struct {
		g     api.Geom
		width int
		want  string
	}{
		{line, 1, "LINESTRING (0 0,\n1 1,\n2 0)"},
		{line, 2, "LINESTRING (0 0,\n1 1,\n2 0)"},
		{line, 8, "LINESTRING (0 0,\n1 1,\n2 0)"},
		{line, 9, "LINESTRING (0 0,\n1 1, 2 0)"},
		{line, 16, "LINESTRING (0 0,\n1 1, 2 0)"},
		{line, 20, "LINESTRING (0 0,\n1 1, 2 0)"},
		{line, 21, "LINESTRING (0 0, 1 1,\n2 0)"},
		{line, 25, "LINESTRING (0 0, 1 1,\n2 0)"},
		{line, 26, "LINESTRING (0 0, 1 1, 2 0)"},
		{line, math.MaxInt, "LINESTRING (0 0, 1 1, 2 0)"},
		{sample.Point(sample.At(1, 2)), 1, "POINT (1 2)"},
		{sample.Group(7), 3, "GEOMETRYCOLLECTION EMPTY"},
		{group, 1, "GEOMETRYCOLLECTION (MULTIPOINT ((1 2),\nEMPTY),\nLINESTRING EMPTY,\nPOLYGON ((0 0),\n(0 0)))"},
		{group, 24, "GEOMETRYCOLLECTION (MULTIPOINT ((1 2),\nEMPTY),\nLINESTRING EMPTY,\nPOLYGON ((0 0), (0 0)))"},
		{group, 25, "GEOMETRYCOLLECTION (MULTIPOINT ((1 2),\nEMPTY), LINESTRING EMPTY,\nPOLYGON ((0 0), (0 0)))"},
		{group, 46, "GEOMETRYCOLLECTION (MULTIPOINT ((1 2), EMPTY),\nLINESTRING EMPTY, POLYGON ((0 0), (0 0)))"},
		{group, 45, "GEOMETRYCOLLECTION (MULTIPOINT ((1 2),\nEMPTY), LINESTRING EMPTY, POLYGON ((0 0),\n(0 0)))"},
	} {
		if got, err := print.Pretty(c.g, api.Shortest, c.width); err != nil || got != c.want {
			t.Errorf("P20.2: Pretty(%v, 1, %d) = %q, %v, want %q", c.g, c.width, got, err, c.want)
		}
	}
	for mode, want := range map[int]string{2: "LINESTRING (0x0p+0 0x0p+0,\n0x1p+0 0x1p+0,\n0x1p+1 0x0p+0)", 3: "LINESTRING (0e+00 0e+00,\n1e+00 1e+00, 2e+00 0e+00)"} {
		if got, err := print.Pretty(line, mode, 27); err != nil || got != want {
			t.Errorf("P20.2: Pretty(%v, %d, 27) = %q, %v, want %q", line, mode, got, err, want)
		}
	}
}

// P20.4: all kinds, and numbers that are none.
func TestName(t *testing.T) {
	for kind := 1; kind <= 7; kind++ {
		if s, e := print.Name(kind); s != kinds[kind] || e != api.OK {
			t.Errorf("P20.4: Name(%d) = %q, %d, want %q", kind, s, e, kinds[kind])
		}
	}
	for _, kind := range []int{0, 8, 9, -1, -7, 255, 257, 1 << 32, 1<<32 + 1, math.MinInt, math.MinInt + 1, math.MaxInt} {
		if s, e := print.Name(kind); s != "" || e != api.ErrShape {
			t.Errorf("P20.4: Name(%d) = %q, %d, want ErrShape", kind, s, e)
		}
	}
}

// refuses holds all calls to the error of a Geom that is no tree.
func refuses(t *testing.T, what string, g api.Geom, at int, code api.Errno) {
	t.Helper()
	for _, mode := range modes {
		if s, err := print.Text(g, mode); s != "" || !isFault(err, at, code) {
			t.Errorf("P20.1: Text of %s, %d = %.99q, %v, want %d at %d", what, mode, s, err, code, at)
		}
		if n, err := print.Length(g, mode); n != 0 || !isFault(err, at, code) {
			t.Errorf("P20.3: Length of %s, %d = %d, %v, want %d at %d", what, mode, n, err, code, at)
		}
		for _, width := range []int{1, 80, math.MaxInt} {
			if s, err := print.Pretty(g, mode, width); s != "" || !isFault(err, at, code) {
				t.Errorf("P20.2: Pretty of %s, %d, %d = %.99q, %v, want %d at %d", what, mode, width, s, err, code, at)
			}
		}
	}
}

// P20.1 to P20.3: a Geom that is no tree: Check's error, as it is.
func TestNoTree(t *testing.T) {
	const infinite, nan = 0x7ff0000000000000, 0xfff8000000000001
	round := api.Geom{Kind: 7, Parts: make([]api.Geom, 2)}
	round.Parts[0], round.Parts[1] = sample.Point(), round
	wide := slices.Repeat([]api.Geom{sample.Group(7, slices.Repeat([]api.Geom{sample.Group(7)}, 999)...)}, 999)
	for _, c := range []struct {
		what string
		g    api.Geom
		at   int
		code api.Errno
	}{
		{"the zero Geom", api.Geom{}, 0, api.ErrShape},
		{"kind 9", api.Geom{Kind: 9}, 0, api.ErrShape},
		{"kind -1", api.Geom{Kind: -1}, 0, api.ErrShape},
		{"a kind of the greatest number", api.Geom{Kind: math.MaxInt}, 0, api.ErrShape},
		{"two places", sample.Point(ring[:2]...), 0, api.ErrShape},
		{"a ring of none", sample.Polygon(ring, nil), 0, api.ErrShape},
		{"a point with a part", api.Geom{Kind: 1, Parts: []api.Geom{line}}, 0, api.ErrShape},
		{"a line among points", sample.Group(7, sample.Point(), sample.Group(4, sample.Point(), sample.Line())), 4, api.ErrShape},
		{"an infinite X", sample.Group(7, sample.Point(), sample.Point(api.Point{X: infinite})), 2, api.ErrNumber},
		{"a Y that is none", sample.Polygon([]api.Point{{Y: nan}}), 0, api.ErrNumber},
		{"257 levels", sample.Deep(257, sample.Point()), 256, api.ErrDeep},
		{"one that leads back", round, 511, api.ErrDeep},
		{"65536 points", sample.Line(slices.Repeat(ring[:1], 65536)...), 0, api.ErrMany},
		{"65537 geometries", sample.Group(4, slices.Repeat([]api.Geom{sample.Point()}, 65536)...), 65536, api.ErrMany},
		{"many that share memory", sample.Group(7, wide...), 65536, api.ErrMany},
	} {
		if err := tree.Check(c.g); !isFault(err, c.at, c.code) {
			t.Errorf("the test is wrong: Check of %s = %v", c.what, err)
		}
		refuses(t, c.what, c.g, c.at, c.code)
	}
}

// P20.1 to P20.3: a mode that is none is told ahead of all else, then a width.
func TestModesAndWidths(t *testing.T) {
	geoms := []api.Geom{line, sample.Point(), {Kind: 9}, sample.Deep(300, line), sample.Line(slices.Repeat(ring[:1], 65536)...)}
	widths := []int{math.MinInt, -1, 0, 1, 80, math.MaxInt}
	for _, g := range geoms {
		for _, mode := range []int{0, 4, 7, -1, 257, 1<<32 + 1, math.MinInt, math.MaxInt} {
			if s, err := print.Text(g, mode); s != "" || !isFault(err, 0, api.ErrPrint) {
				t.Errorf("P20.1: Text(.., %d) = %q, %v, want ErrPrint", mode, s, err)
			}
			if n, err := print.Length(g, mode); n != 0 || !isFault(err, 0, api.ErrPrint) {
				t.Errorf("P20.3: Length(.., %d) = %d, %v, want ErrPrint", mode, n, err)
			}
			for _, width := range widths {
				if s, err := print.Pretty(g, mode, width); s != "" || !isFault(err, 0, api.ErrPrint) {
					t.Errorf("P20.2: Pretty(.., %d, %d) = %q, %v, want ErrPrint", mode, width, s, err)
				}
			}
		}
		for _, mode := range modes {
			for _, width := range widths[:3] {
				if s, err := print.Pretty(g, mode, width); s != "" || !isFault(err, 0, api.ErrWidth) {
					t.Errorf("P20.2: Pretty(.., %d, %d) = %q, %v, want ErrWidth", mode, width, s, err)
				}
			}
		}
	}
}

// P20.1 to P20.3: the greatest trees, and such as share memory.
func TestGreatest(t *testing.T) {
	long := api.Point{X: 0x800fffffffffffff, Y: 0x8010000000000001}
	shared := sample.Line(slices.Repeat([]api.Point{long}, 254)...)
	for what, g := range map[string]api.Geom{
		"65535 points":            sample.Line(slices.Repeat([]api.Point{long}, 65535)...),
		"65536 geometries":        sample.Group(4, slices.Repeat([]api.Geom{sample.Point()}, 65535)...),
		"256 levels":              sample.Deep(256, shared),
		"parts that share memory": sample.Group(5, slices.Repeat([]api.Geom{shared}, 25)...),
		"rings that share memory": sample.Polygon(slices.Repeat([][]api.Point{shared.Line}, 25)...),
	} {
		for _, mode := range modes {
			want := plainText(g, mode)
			if got, err := print.Text(g, mode); err != nil || got != want {
				t.Errorf("P20.1: Text of %s, %d: %d bytes, %v, want %d", what, mode, len(got), err, len(want))
			}
			if n, err := print.Length(g, mode); err != nil || n != len(want) {
				t.Errorf("P20.3: Length of %s, %d = %d, %v, want %d", what, mode, n, err, len(want))
			}
			for width, text := range map[int]string{1: strings.ReplaceAll(want, ", ", ",\n"), len(want): want} {
				if got, err := print.Pretty(g, mode, width); err != nil || got != text {
					t.Errorf("P20.7: Pretty of %s, %d, %d: %d bytes, %v", what, mode, width, len(got), err)
				}
			}
		}
	}
}

// P20.5: a text of just MaxText bytes is read back.
func TestReadBackAtMaxText(t *testing.T) {
	const head = len("MULTIPOINT ()")
	parts := slices.Repeat([]api.Geom{sample.Point()}, (api.MaxText-head+len(", "))/len("EMPTY, "))
	g := sample.Group(api.Points, parts...)
	n, err := print.Length(g, api.Shortest)
	for i := 0; err == nil && n < api.MaxText && i < 6; i++ { // "(1 2)" is as long as EMPTY, "(11 2)" is longer by one
		parts[i] = sample.Point(sample.At(11, 2))
		n, err = print.Length(g, api.Shortest)
	}
	if n != api.MaxText || err != nil {
		t.Fatalf("P20.3: Length = %d, %v, want 65536", n, err)
	}
	for _, width := range []int{1, 80, api.MaxText} {
		s, err := print.Pretty(g, api.Shortest, width)
		if err != nil || len(s) != api.MaxText {
			t.Fatalf("P20.2: %d bytes, %v, want 65536", len(s), err)
		}
		if back, err := wkt.Parse(s, 2, api.MaxText); err != nil || !tree.Equal(back, g) {
			t.Errorf("P20.5: Parse of 65536 bytes in lines of %d: %v", width, err)
		}
	}
}
