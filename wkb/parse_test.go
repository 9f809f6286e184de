package wkb_test

import (
	"encoding/binary"
	"math"
	"runtime"
	"slices"
	"strconv"
	"strings"
	"testing"

	"plumb/api"
	"plumb/sample"
	"plumb/tree"
	"plumb/wkb"
)

const (
	zeros   = "0000000000000000 0000000000000000"
	oneTwo  = "00 00000001 3ff0000000000000 4000000000000000"
	noPlace = "00 00000001 7ff8000000000000 7ff8000000000000"
	noLine  = "00 00000002 00000000"
	noArea  = "00 00000003 00000000"
	noPart  = "00 00000007 00000000"
)

// nulls are the digits of so many bytes 0.
func nulls(n int) string {
	return strings.Repeat("00", n)
}

// refusal is what Parse refuses, and how.
type refusal struct {
	what  string
	depth int
	most  int
	at    int
	code  api.Errno
}

// refuses holds Parse to its errors, and Orders, where its limits are those.
func refuses(t *testing.T, list []refusal) {
	t.Helper()
	for _, c := range list {
		b := hexa(t, c.what)
		if g, err := wkb.Parse(b, c.depth, c.most); !isFault(err, c.at, c.code) || !isNothing(g) {
			t.Errorf("P17.1: Parse(%s, %d, %d): %v, %v, want %d at %d", c.what, c.depth, c.most, g, err, c.code, c.at)
		}
		if c.code == api.ErrSize || c.code == api.ErrDepth {
			continue
		}
		if o, err := wkb.Orders(b); !isFault(err, c.at, c.code) || len(o) != 0 {
			t.Errorf("P17.5: Orders(%s): %v, %v, want %d at %d", c.what, o, err, c.code, c.at)
		}
	}
}

// P17.1, P17.5: a head that is none: order, kind, a kind that may not be there.
func TestParseHead(t *testing.T) {
	refuses(t, []refusal{
		{"", 9, 9, 0, api.ErrEnd},
		{"02", 9, 9, 0, api.ErrOrder},
		{"ff", 9, 9, 0, api.ErrOrder},
		{"03 00000001" + zeros, 9, 99, 0, api.ErrOrder},
		{"00", 9, 9, 1, api.ErrEnd},
		{"00 0000", 9, 9, 1, api.ErrEnd},
		{"01 010000", 9, 9, 1, api.ErrEnd},
		{"00 00000008", 9, 9, 1, api.ErrType},
		{"00 00000000", 9, 9, 1, api.ErrType},
		{"01 00000001", 9, 9, 1, api.ErrType},
		{"00 01000000" + zeros, 9, 99, 1, api.ErrType},
		{"00 80000001" + zeros, 9, 99, 1, api.ErrType},
		{"00 00000101" + zeros, 9, 99, 1, api.ErrType},
		{"00 ffffffff" + zeros, 9, 99, 1, api.ErrType},
		{"00 000003e9" + zeros, 9, 99, 1, api.ErrType},
		{"00 00000007 00000001 02" + nulls(8), 9, 99, 9, api.ErrOrder},
		{"00 00000007 00000001 00 00000008" + nulls(4), 9, 99, 10, api.ErrType},
		{"00 00000004 00000001 00 00000008" + zeros, 9, 99, 10, api.ErrType},
		{"00 00000004 00000001 00 00000002" + zeros, 9, 99, 10, api.ErrMember},
		{"00 00000007 00000002" + oneTwo, 9, 99, 30, api.ErrEnd},
		{"00 00000007 00000002" + oneTwo + "01 0700", 9, 99, 31, api.ErrEnd},
		{"01 07000000 02000000" + oneTwo + "01 00000007", 9, 99, 31, api.ErrType},
	})
}

// P17.1: which kinds may be parts of which; the place is that of the kind, in either order.
func TestParseMembers(t *testing.T) {
	bodies := []string{1: zeros, 2: nulls(20), 3: nulls(20), 4: nulls(20), 5: nulls(20), 6: nulls(20), 7: nulls(20)}
	for home := 4; home <= 7; home++ {
		for kind := 1; kind <= 7; kind++ {
			part := "01 0" + strconv.Itoa(kind) + "000000" + bodies[kind]
			b := hexa(t, "00 0000000"+strconv.Itoa(home)+"00000001"+part)
			g, err := wkb.Parse(b, 9, 99)
			switch {
			case home < 7 && kind != home-3:
				if !isFault(err, 10, api.ErrMember) || !isNothing(g) {
					t.Errorf("P17.1: a %d in a %d: %v, %v", kind, home, g, err)
				}
			case kind == 1:
				if want := sample.Group(home, sample.Point(sample.At(0, 0))); err != nil || !tree.Equal(g, want) {
					t.Errorf("P17.1: a point in a %d: %v, %v", home, g, err)
				}
			default: // 16 bytes are too many
				if !isFault(err, 18, api.ErrTrail) || !isNothing(g) {
					t.Errorf("P17.1: a %d in a %d: %v, %v", kind, home, g, err)
				}
			}
		}
	}
}

// P17.1, P17.5: points whose bytes end, or that are not finite.
func TestParsePoints(t *testing.T) {
	refuses(t, []refusal{
		{"00 00000001", 9, 99, 5, api.ErrEnd},
		{"00 00000001" + nulls(7), 9, 99, 5, api.ErrEnd},
		{"00 00000001" + nulls(8), 9, 99, 13, api.ErrEnd},
		{"00 00000001" + nulls(15), 9, 99, 13, api.ErrEnd},
		{"00 00000001 7ff0000000000000", 9, 99, 13, api.ErrEnd},
		{"00 00000001 7ff8000000000000 7ff80000000000", 9, 99, 13, api.ErrEnd},
		{"00 00000001 7ff8000000000000 3ff0000000000000", 9, 99, 5, api.ErrCoord},
		{"00 00000001 3ff0000000000000 7ff8000000000000", 9, 99, 13, api.ErrCoord},
		{"00 00000001 3ff0000000000000 7ff0000000000000", 9, 99, 13, api.ErrCoord},
		{"00 00000001 7ff0000000000000 7ff8000000000000", 9, 99, 5, api.ErrCoord},
		{"00 00000001 7ff8000000000000 7ff0000000000000", 9, 99, 5, api.ErrCoord},
		{"00 00000001 fff0000000000000 7ff0000000000000", 9, 99, 5, api.ErrCoord},
		{"01 01000000 000000000000f07f 000000000000f03f", 9, 99, 5, api.ErrCoord},
		{"01 01000000 000000000000f03f 000000000000f0ff", 9, 99, 13, api.ErrCoord},
		{"00 00000001 7ff0000000000000 7ff0000000000000 00", 9, 99, 5, api.ErrCoord},
		{"00 00000004 00000002" + oneTwo + "00 00000001" + "0000000000000000 7ff0000000000000", 9, 99, 43, api.ErrCoord},
	})
	patterns := []uint64{0x7ff8000000000000, 0xfff0000000000001, 0x7fffffffffffffff, 0x7ff0000000000001, 0xffffffffffffffff, 0x7ff4000000000000}
	for i, x := range patterns {
		y := patterns[(i+1)%len(patterns)]
		for _, b := range [][]byte{bytesAt(x, y, false), bytesAt(x, y, true)} {
			if g, err := wkb.Parse(b, 1, 21); err != nil || !tree.Equal(g, sample.Point()) {
				t.Errorf("P17.1: %x: %v, %v, want POINT EMPTY", b, g, err)
			}
		}
	}
	for _, p := range []api.Point{{}, {X: 1, Y: 1 << 63}, {X: 0x7fefffffffffffff, Y: 0xffefffffffffffff}, {X: 0x3ff0000000000000, Y: 0x0102030405060708}} {
		for _, b := range [][]byte{bytesAt(p.X, p.Y, false), bytesAt(p.X, p.Y, true)} {
			if g, err := wkb.Parse(b, 1, 21); err != nil || !tree.Equal(g, sample.Point(p)) {
				t.Errorf("P17.1: %x: %v, %v, want %x", b, g, err, p)
			}
		}
	}
}

// bytesAt are those of a point with these patterns.
func bytesAt(x uint64, y uint64, little bool) []byte {
	if little {
		return binary.LittleEndian.AppendUint64(binary.LittleEndian.AppendUint64([]byte{1, 1, 0, 0, 0}, x), y)
	}
	return binary.BigEndian.AppendUint64(binary.BigEndian.AppendUint64([]byte{0, 0, 0, 0, 1}, x), y)
}

// P17.1, P17.5: counts whose bytes end, that ask for more than is there, and rings without points.
func TestParseCounts(t *testing.T) {
	refuses(t, []refusal{
		{"01 07000000 ffffffff", 9, 99, 5, api.ErrCount},
		{"00 00000002 10000000", 9, 99, 5, api.ErrCount},
		{"00 00000002 10000001" + zeros, 9, 99, 5, api.ErrCount},
		{"00 00000005 1c71c71d" + nulls(20), 9, 99, 5, api.ErrCount},
		{"01 02000000 01000000" + nulls(15), 9, 99, 5, api.ErrCount},
		{"01 02000000 0100", 9, 99, 5, api.ErrEnd},
		{"01 02000000", 9, 99, 5, api.ErrEnd},
		{"01 03000000 010000", 9, 99, 5, api.ErrEnd},
		{"01 06000000 0100", 9, 99, 5, api.ErrEnd},
		{"00 00000002 00000002" + nulls(31), 9, 99, 5, api.ErrCount},
		{"00 00000003 00000001 00000000", 9, 99, 5, api.ErrCount},
		{"00 00000003 00000001" + nulls(19), 9, 99, 5, api.ErrCount},
		{"00 00000003 00000002" + nulls(39), 9, 99, 5, api.ErrCount},
		{"00 00000003 00000001 00000000" + zeros, 9, 99, 9, api.ErrRing},
		{"00 00000003 00000001 00000002" + zeros, 9, 99, 9, api.ErrCount},
		{"00 00000003 00000001 ffffffff" + zeros, 9, 99, 9, api.ErrCount},
		{"00 00000003 00000002 00000001" + zeros + "00000000" + zeros, 9, 99, 29, api.ErrRing},
		{"00 00000003 00000002 00000002" + zeros + zeros + "00000001", 9, 99, 45, api.ErrCount},
		{"00 00000003 00000002 00000002" + zeros + zeros + "000000", 9, 99, 5, api.ErrCount},
		{"00 00000003 00000002 00000002" + zeros + zeros + "00000001" + nulls(15), 9, 99, 45, api.ErrCount},
		{"00 00000003 00000003 00000003" + zeros + zeros + zeros + "000000", 9, 99, 5, api.ErrCount},
		{"00 00000003 00000003 00000004" + zeros + zeros + zeros + zeros, 9, 99, 77, api.ErrEnd},
		{"00 00000003 00000003 00000004" + zeros + zeros + zeros + zeros + "0000", 9, 99, 77, api.ErrEnd},
		{"00 00000003 00000003 00000004" + zeros + zeros + zeros + zeros + "00000000", 9, 99, 77, api.ErrRing},
		{"00 00000004 00000001" + nulls(20), 9, 99, 5, api.ErrCount},
		{"00 00000004 00000001 02" + nulls(20), 9, 99, 9, api.ErrOrder},
		{"00 00000004 00000002" + nulls(41), 9, 99, 5, api.ErrCount},
		{"00 00000005 00000001" + nulls(8), 9, 99, 5, api.ErrCount},
		{"00 00000005 00000001" + nulls(9), 9, 99, 10, api.ErrType},
		{"00 00000006 00000001" + nulls(8), 9, 99, 5, api.ErrCount},
		{"00 00000006 00000001" + nulls(9), 9, 99, 10, api.ErrType},
		{"00 00000007 00000001" + nulls(8), 9, 99, 5, api.ErrCount},
		{"00 00000007 00000001" + nulls(9), 9, 99, 10, api.ErrType},
		{"00 00000007 00000001 00 00000001 00000000", 9, 99, 14, api.ErrEnd},
	})
}

// P17.1, P17.5: points of line strings and rings are finite, and never empty; X is told ahead of Y, the first ahead of others.
func TestParseCoordinates(t *testing.T) {
	const infinite, nan = "7ff0000000000000", "7ff8000000000000"
	refuses(t, []refusal{
		{"00 00000002 00000001" + nan + nan, 9, 99, 9, api.ErrCoord},
		{"00 00000002 00000001" + infinite + infinite, 9, 99, 9, api.ErrCoord},
		{"00 00000002 00000001 0000000000000000" + infinite, 9, 99, 17, api.ErrCoord},
		{"00 00000002 00000002" + zeros + nan + "0000000000000000", 9, 99, 25, api.ErrCoord},
		{"00 00000002 00000002 0000000000000000" + nan + infinite + infinite, 9, 99, 17, api.ErrCoord},
		{"00 00000003 00000001 00000001" + nan + nan, 9, 99, 13, api.ErrCoord},
		{"00 00000003 00000001 00000001 0000000000000000" + infinite, 9, 99, 21, api.ErrCoord},
		{"00 00000003 00000002 00000001" + zeros + "00000001" + infinite + "0000000000000000", 9, 99, 33, api.ErrCoord},
		{"00 00000003 00000002 00000001" + infinite + nan + "00000000" + zeros, 9, 99, 13, api.ErrCoord},
		{"01 02000000 01000000 0000000000000000 000000000000f0ff", 9, 99, 17, api.ErrCoord},
		{"00 00000007 00000001 01 02000000 01000000 0000000000000000 000000000000f0ff 00", 9, 99, 26, api.ErrCoord},
	})
}

// P17.1: limits of size, looked at ahead of all else, and what stands behind the end.
func TestParseLimits(t *testing.T) {
	refuses(t, []refusal{
		{oneTwo + "07", 9, 99, 21, api.ErrTrail},
		{oneTwo + oneTwo, 9, 99, 21, api.ErrTrail},
		{noLine + "00", 9, 99, 9, api.ErrTrail},
		{noPart + noPart, 9, 99, 9, api.ErrTrail},
		{"00 00000007 00000001" + noLine + "ff", 9, 99, 18, api.ErrTrail},
		{oneTwo, 9, 20, 20, api.ErrSize},
		{oneTwo, 9, 0, 0, api.ErrSize},
		{oneTwo, 9, -1, 0, api.ErrSize},
		{oneTwo, 9, math.MinInt, 0, api.ErrSize},
		{oneTwo, 0, 20, 20, api.ErrSize},
		{"02 00", 9, 1, 1, api.ErrSize},
		{"", 9, 0, 0, api.ErrEnd},
		{"", 9, -1, 0, api.ErrEnd},
		{"", 0, math.MinInt, 0, api.ErrEnd},
	})
	for _, c := range []struct{ size, most, limit int }{
		{api.MaxText + 1, api.MaxText + 1, api.MaxText},
		{api.MaxText + 1, math.MaxInt, api.MaxText},
		{api.MaxText + 1, api.MaxText, api.MaxText},
		{api.MaxText + 1, api.MaxText - 1, api.MaxText - 1},
		{api.MaxText, api.MaxText - 1, api.MaxText - 1},
		{1 << 22, math.MaxInt, api.MaxText},
		{1 << 22, 77, 77},
	} {
		if g, err := wkb.Parse(make([]byte, c.size), 9, c.most); !isFault(err, c.limit, api.ErrSize) || !isNothing(g) {
			t.Errorf("P17.1: %d bytes with maxBytes %d: %v, want ErrSize at %d", c.size, c.most, err, c.limit)
		}
	}
	if o, err := wkb.Orders(make([]byte, api.MaxText+1)); !isFault(err, api.MaxText, api.ErrSize) || len(o) != 0 {
		t.Errorf("P17.5: Orders of 65537 bytes: %v, %v", o, err)
	}
	if _, err := wkb.Parse(make([]byte, api.MaxText), 9, math.MaxInt); !isFault(err, 1, api.ErrType) {
		t.Errorf("P17.1: 65536 bytes 0: %v", err)
	}
}

// P17.1: a level that is too deep is told at the geometry's beginning, behind what is wrong with its order and kind and
// ahead of all that follows.
func TestParseDepth(t *testing.T) {
	refuses(t, []refusal{
		{oneTwo, 0, 99, 0, api.ErrDepth},
		{oneTwo, -1, 99, 0, api.ErrDepth},
		{"00 00000001", 0, 99, 0, api.ErrDepth},
		{"00 00000001", math.MinInt, 99, 0, api.ErrDepth},
		{"00 00000003 ffffffff", 0, 99, 0, api.ErrDepth},
		{"00 00000007 00000001" + noPart, 1, 99, 9, api.ErrDepth},
		{"00 00000007 00000001" + "00 00000007 ffffffff", 1, 99, 9, api.ErrDepth},
		{"00 00000004 00000001" + oneTwo, 1, 99, 9, api.ErrDepth},
		{"00 00000005 00000001" + noLine, 1, 99, 9, api.ErrDepth},
		{"00 00000006 00000001" + noArea, 1, 99, 9, api.ErrDepth},
		{"00 00000007 00000002" + "00 00000007 00000000" + "00 00000007 00000001" + noLine, 1, 99, 9, api.ErrDepth},
		{"00 00000007 00000002" + "00 00000007 00000000" + "00 00000007 00000001" + noLine, 2, 99, 27, api.ErrDepth},
		{"00 00000007 00000002" + "00 00000007 00000001" + noLine + noLine, 2, 99, 18, api.ErrDepth},
	})
	for _, c := range []struct {
		what string
		at   int
		code api.Errno
	}{{"", 0, api.ErrEnd}, {"02", 0, api.ErrOrder}, {"00 000000", 1, api.ErrEnd}, {"00 00000009", 1, api.ErrType}} {
		for _, depth := range []int{0, -5, math.MinInt} {
			if g, err := wkb.Parse(hexa(t, c.what), depth, 99); !isFault(err, c.at, c.code) || !isNothing(g) {
				t.Errorf("P17.1: %s with maxDepth %d: %v, want %d at %d", c.what, depth, err, c.code, c.at)
			}
		}
	}
	b := hexa(t, "00 00000005 00000001 01 03000000 00000000")
	if _, err := wkb.Parse(b, 1, 99); !isFault(err, 10, api.ErrMember) {
		t.Errorf("P17.1: a polygon too deep, in a MULTILINESTRING: %v", err)
	}
	// Refused as parts are looked at, not ahead of it: a geometry without any has no deeper level.
	if g, err := wkb.Parse(hexa(t, noPart), 1, 9); err != nil || !tree.Equal(g, sample.Group(7)) {
		t.Errorf("P17.1: GEOMETRYCOLLECTION EMPTY with maxDepth 1: %v, %v", g, err)
	}
}

// P17.1: 256 levels, and more, whatever the caller allows.
func TestParseDeep(t *testing.T) {
	b := hexa(t, noLine)
	for levels := 1; levels <= 300; levels++ {
		for _, depth := range []int{levels - 1, levels, api.MaxDepth, math.MaxInt} {
			limit := min(depth, api.MaxDepth)
			g, err := wkb.Parse(b, depth, api.MaxText)
			if levels <= limit && (err != nil || !tree.Equal(g, sample.Deep(levels, sample.Line()))) {
				t.Fatalf("P17.1: %d levels with maxDepth %d: %v", levels, depth, err)
			}
			if levels > limit && (!isFault(err, 9*limit, api.ErrDepth) || !isNothing(g)) {
				t.Fatalf("P17.1: %d levels with maxDepth %d: %v", levels, depth, err)
			}
		}
		if o, err := wkb.Orders(b); levels <= 256 && (err != nil || len(o) != levels) || levels > 256 && !isFault(err, 9*256, api.ErrDepth) {
			t.Fatalf("P17.5: Orders of %d levels: %v, %v", levels, o, err)
		}
		b = append(hexa(t, "00 00000007 00000001"), b...)
	}
}

// P17.2: what the tree has, and where.
func TestParseTrees(t *testing.T) {
	at, ring := sample.At(1, 2), []api.Point{{}, {}}
	for _, c := range []struct {
		what string
		want api.Geom
	}{
		{oneTwo, sample.Point(at)},
		{"01 01000000 000000000000f03f 0000000000000040", sample.Point(at)},
		{noPlace, sample.Point()},
		{noLine, sample.Line()},
		{"01 02000000 00000000", sample.Line()},
		{"00 00000002 00000002" + "3ff0000000000000 4000000000000000" + zeros, sample.Line(at, sample.At(0, 0))},
		{noArea, sample.Polygon()},
		{"00 00000003 00000001 00000001" + zeros, sample.Polygon(ring[:1])},
		{"01 03000000 02000000 02000000" + zeros + zeros + "01000000 000000000000f03f 0000000000000040", sample.Polygon(ring, []api.Point{at})},
		{"00 00000004 00000001" + noPlace, sample.Group(4, sample.Point())},
		{"00 00000004 00000002" + noPlace + oneTwo, sample.Group(4, sample.Point(), sample.Point(at))},
		{"01 05000000 02000000" + noLine + "01 02000000 00000000", sample.Group(5, sample.Line(), sample.Line())},
		{"00 00000006 00000001" + noArea, sample.Group(6, sample.Polygon())},
		{noPart, sample.Group(7)},
		{"00 00000007 00000001" + noPart, sample.Group(7, sample.Group(7))},
		{"00 00000007 00000003" + noPart + oneTwo + "01 04000000 00000000", sample.Group(7, sample.Group(7), sample.Point(at), sample.Group(4))},
	} {
		b := hexa(t, c.what)
		for _, most := range []int{len(b), len(b) + 1, math.MaxInt} {
			g, err := wkb.Parse(b, tree.Depth(c.want), most)
			if err != nil || !tree.Equal(g, c.want) || tree.Check(g) != nil {
				t.Errorf("P17.2: %s: %v, %v, want %v", c.what, g, err, c.want)
			}
		}
	}
}

// P17.2: the most that fits into MaxText bytes, of every kind that has members.
func TestParseMost(t *testing.T) {
	for _, c := range []struct {
		kind  byte
		bytes string
		n     int
	}{{2, zeros, 4095}, {3, "00000001" + zeros, 3276}, {4, noPlace, 3120}, {5, noLine, 7280}, {6, noArea, 7280}, {7, noPart, 7280}} {
		head := binary.BigEndian.AppendUint32([]byte{0, 0, 0, 0, c.kind}, uint32(c.n))
		b := slices.Concat(head, slices.Concat(slices.Repeat([][]byte{hexa(t, c.bytes)}, c.n)...))
		g, err := wkb.Parse(b, 2, api.MaxText)
		if err != nil || len(g.Line)+len(g.Rings)+len(g.Parts) != c.n || tree.Check(g) != nil {
			t.Errorf("P17.2: %d members of a %d: %v", c.n, c.kind, err)
		}
		if back, err := wkb.Print(g, false); err != nil || !slices.Equal(back, b) {
			t.Errorf("P17.7: %d members of a %d: %v", c.n, c.kind, err)
		}
	}
}

// greedy are bytes of so many collections within one another, each of which says that it has as many parts as can be.
func greedy(levels int, size int) []byte {
	var b []byte
	for range levels {
		b = binary.BigEndian.AppendUint32(append(b, 0, 0, 0, 0, 7), uint32((size-len(b)-9)/9))
	}
	return append(b, make([]byte, size-len(b))...)
}

// P17.2: memory stays in proportion to the bytes, also where counts within counts ask for all of them again and again.
func TestParseTakesLittleMemory(t *testing.T) {
	flat := append(hexa(t, "00 00000007 00001c70"), slices.Concat(slices.Repeat([][]byte{hexa(t, noPart)}, 7280)...)...)
	for _, c := range []struct {
		what  string
		bytes []byte
		code  api.Errno
	}{
		{"counts within counts", greedy(api.MaxDepth, api.MaxText), api.ErrType},
		{"counts within counts, too deep", greedy(300, api.MaxText), api.ErrDepth},
		{"many small ones", flat, api.OK},
		{"a count of all", hexa(t, "00 00000007 ffffffff"), api.ErrCount},
		{"a count of rings", append(hexa(t, "00 00000003 00000ccc"), make([]byte, 65520)...), api.ErrRing},
	} {
		var before, after runtime.MemStats
		runtime.ReadMemStats(&before)
		_, err := wkb.Parse(c.bytes, api.MaxDepth, api.MaxText)
		runtime.ReadMemStats(&after)
		if api.Code(err) != c.code {
			t.Errorf("P17.1: %s: %v, want %d", c.what, err, c.code)
		}
		if took := after.TotalAlloc - before.TotalAlloc; took > 1<<16+100*uint64(len(c.bytes)) {
			t.Errorf("P17.2: %s: %d bytes of memory for %d", c.what, took, len(c.bytes))
		}
	}
	// Far longer bytes are not even copied.
	long := make([]byte, 1<<26)
	var before, after runtime.MemStats
	runtime.ReadMemStats(&before)
	_, err := wkb.Parse(long, 9, math.MaxInt)
	runtime.ReadMemStats(&after)
	if took := after.TotalAlloc - before.TotalAlloc; took > 1<<16 || !isFault(err, api.MaxText, api.ErrSize) {
		t.Errorf("P17.1: %d bytes of memory for bytes that are too long, %v", took, err)
	}
}
