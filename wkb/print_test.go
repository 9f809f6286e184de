package wkb_test

import (
	"slices"
	"testing"

	"plumb/api"
	"plumb/sample"
	"plumb/wkb"
)

// P17.3: the chapter's examples, and bytes of every kind, in both orders.
func TestPrint(t *testing.T) {
	at, ring := sample.At(1, 2), []api.Point{{}, {}}
	for _, c := range []struct {
		g      api.Geom
		little bool
		want   string
	}{
		{sample.Point(at), false, oneTwo},
		{sample.Point(at), true, "01 01000000 000000000000f03f 0000000000000040"},
		{sample.Point(), false, noPlace},
		{sample.Point(), true, "01 01000000 000000000000f87f 000000000000f87f"},
		{sample.Point(api.Point{X: 1 << 63, Y: 0x0102030405060708}), false, "00 00000001 8000000000000000 0102030405060708"},
		{sample.Point(api.Point{X: 1 << 63, Y: 0x0102030405060708}), true, "01 01000000 0000000000000080 0807060504030201"},
		{sample.Line(), true, "01 02000000 00000000"},
		{sample.Line(), false, noLine},
		{sample.Line(at, sample.At(0, 0)), false, "00 00000002 00000002 3ff0000000000000 4000000000000000" + zeros},
		{sample.Line(at), true, "01 02000000 01000000 000000000000f03f 0000000000000040"},
		{sample.Polygon(), false, noArea},
		{sample.Polygon(ring[:1]), false, "00 00000003 00000001 00000001" + zeros},
		{sample.Polygon(ring, []api.Point{at}), true, "01 03000000 02000000 02000000" + zeros + zeros + "01000000 000000000000f03f 0000000000000040"},
		{sample.Group(4, sample.Point()), false, "00 00000004 00000001" + noPlace},
		{sample.Group(4, sample.Point(at), sample.Point()), false, "00 00000004 00000002" + oneTwo + noPlace},
		{sample.Group(5, sample.Line()), true, "01 05000000 01000000 01 02000000 00000000"},
		{sample.Group(6, sample.Polygon(), sample.Polygon()), false, "00 00000006 00000002" + noArea + noArea},
		{sample.Group(7), true, "01 07000000 00000000"},
		{sample.Group(7, sample.Group(7, sample.Line()), sample.Point(at)), false, "00 00000007 00000002 00 00000007 00000001" + noLine + oneTwo},
		{sample.Group(7, sample.Group(6), sample.Polygon()), true, "01 07000000 02000000 01 06000000 00000000 01 03000000 00000000"},
	} {
		want := hexa(t, c.want)
		if b, err := wkb.Print(c.g, c.little); err != nil || !slices.Equal(b, want) {
			t.Errorf("P17.3: Print(%v, %t): %x, %v, want %x", c.g, c.little, b, err, want)
		}
		if n, err := wkb.Size(c.g); err != nil || n != len(want) {
			t.Errorf("P17.3: Size(%v): %d, %v, want %d", c.g, n, err, len(want))
		}
	}
}

// P17.4, P17.5: the chapter's example 8, and lists that are too short, too long or empty.
func TestMixed(t *testing.T) {
	const big, little = "00 00000001 3ff0000000000000 4000000000000000", "01 01000000 000000000000f03f 0000000000000040"
	at := sample.At(1, 2)
	two := sample.Group(4, sample.Point(at), sample.Point())
	nested := sample.Group(7, sample.Group(4, sample.Point(at)), sample.Line(), sample.Point(at))
	for _, c := range []struct {
		g      api.Geom
		orders []bool
		want   string
		told   []bool
	}{
		{two, []bool{true, false}, "01 04000000 02000000" + big + noPlace, []bool{true, false, false}},
		{two, []bool{false, true}, "00 00000004 00000002" + little + "01 01000000 000000000000f87f 000000000000f87f", []bool{false, true, true}},
		{two, []bool{false, true, false}, "00 00000004 00000002" + little + noPlace, []bool{false, true, false}},
		{two, nil, "00 00000004 00000002" + big + noPlace, []bool{false, false, false}},
		{two, []bool{}, "00 00000004 00000002" + big + noPlace, []bool{false, false, false}},
		{nested, []bool{false, true, false, true}, "00 00000007 00000003 01 04000000 01000000" + big + "01 02000000 00000000" + little, []bool{false, true, false, true, true}},
		{nested, []bool{true, false, true, false, true, false, true}, "01 07000000 03000000 00 00000004 00000001" + little + noLine + little, []bool{true, false, true, false, true}},
		{sample.Point(at), []bool{true, false}, little, []bool{true}},
		{sample.Line(), []bool{false, true}, noLine, []bool{false}},
	} {
		want := hexa(t, c.want)
		b, err := wkb.Mixed(c.g, c.orders)
		if err != nil || !slices.Equal(b, want) {
			t.Errorf("P17.4: Mixed(%v, %v): %x, %v, want %x", c.g, c.orders, b, err, want)
		}
		if o, err := wkb.Orders(want); err != nil || !slices.Equal(o, c.told) {
			t.Errorf("P17.5: Orders(%x): %v, %v, want %v", want, o, err, c.told)
		}
	}
}

// P17.3, P17.4: Geoms that are no trees: tree.Check's error, and nothing else.
func TestPrintRefuses(t *testing.T) {
	infinite := api.Point{X: 0x7ff0000000000000}
	circle := sample.Group(7, api.Geom{Kind: 7})
	circle.Parts[0].Parts = circle.Parts
	for _, c := range []struct {
		what string
		g    api.Geom
		at   int
		code api.Errno
	}{
		{"nothing", api.Geom{}, 0, api.ErrShape},
		{"a kind that is none", api.Geom{Kind: 8}, 0, api.ErrShape},
		{"a part of a kind that is none", sample.Group(7, sample.Point(), api.Geom{Kind: 9}), 2, api.ErrShape},
		{"a point of two places", sample.Point(sample.At(0, 0), sample.At(1, 1)), 0, api.ErrShape},
		{"a ring without points", sample.Polygon(places(1), nil), 0, api.ErrShape},
		{"a line in a MULTIPOINT", sample.Group(4, sample.Point(), sample.Line()), 2, api.ErrShape},
		{"257 levels", sample.Deep(257, sample.Line()), 256, api.ErrDeep},
		{"a circle", circle, 256, api.ErrDeep},
		{"65536 points", sample.Line(places(api.MaxPoints)...), 0, api.ErrMany},
		{"infinite", sample.Point(infinite), 0, api.ErrNumber},
		{"infinite in a ring", sample.Group(6, sample.Polygon(), sample.Polygon(places(2), []api.Point{infinite})), 2, api.ErrNumber},
		{"NaN in a line", sample.Line(api.Point{Y: 0x7ff8000000000000}), 0, api.ErrNumber},
		{"NaN twice in a point", sample.Point(api.Point{X: 0x7ff8000000000000, Y: 0x7ff8000000000000}), 0, api.ErrNumber},
	} {
		b, err := wkb.Print(c.g, true)
		if !isFault(err, c.at, c.code) || len(b) != 0 {
			t.Errorf("P17.3: Print of %s: %x, %v, want %d at %d", c.what, b, err, c.code, c.at)
		}
		if n, err := wkb.Size(c.g); !isFault(err, c.at, c.code) || n != 0 {
			t.Errorf("P17.3: Size of %s: %d, %v, want %d at %d", c.what, n, err, c.code, c.at)
		}
		b, err = wkb.Mixed(c.g, []bool{true, false})
		if !isFault(err, c.at, c.code) || len(b) != 0 {
			t.Errorf("P17.4: Mixed of %s: %x, %v, want %d at %d", c.what, b, err, c.code, c.at)
		}
	}
}

// P17.3: the greatest trees, many times what Parse takes.
func TestPrintGreatest(t *testing.T) {
	empty := slices.Repeat([]api.Geom{sample.Point()}, api.MaxPoints-1)
	single := slices.Repeat([]api.Geom{sample.Point(sample.At(1, 2))}, api.MaxPoints/2-1)
	rings := slices.Repeat([][]api.Point{places(1)}, api.MaxPoints-1)
	twofold := sample.Line()
	for range 15 {
		twofold = sample.Group(7, twofold, twofold)
	}
	for _, c := range []struct {
		what string
		g    api.Geom
		want int
	}{
		{"65535 points of a line", sample.Line(places(api.MaxPoints - 1)...), 9 + 16*65535},
		{"65535 rings", sample.Polygon(rings...), 9 + 20*65535},
		{"65535 empty points", sample.Group(4, empty...), 9 + 21*65535},
		{"32767 points", sample.Group(7, single...), 9 + 21*32767},
		{"256 levels", sample.Deep(256, sample.Line(places(65536-256)...)), 256*9 + 16*65280},
		{"65535 geometries in little memory", twofold, 9 * 65535},
	} {
		for _, little := range []bool{false, true} {
			b, err := wkb.Print(c.g, little)
			if err != nil || len(b) != c.want || !slices.Equal(b, plainBytes(c.g, all(little))) {
				t.Errorf("P17.3: Print of %s: %d bytes, %v, want %d", c.what, len(b), err, c.want)
			}
		}
		if n, err := wkb.Size(c.g); err != nil || n != c.want {
			t.Errorf("P17.3: Size of %s: %d, %v, want %d", c.what, n, err, c.want)
		}
	}
}
