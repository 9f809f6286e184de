package codec_test

import (
	"encoding/hex"
	"math"
	"slices"
	"strings"
	"testing"

	"plumb/api"
	"plumb/codec"
	"plumb/octet"
	"plumb/print"
	"plumb/sample"
	"plumb/tree"
	"plumb/wkb"
)

// P21.2, P21.3: every format, by example.
func TestFormats(t *testing.T) {
	group := sample.Group(api.Points, sample.Point(), oneTwo)
	for _, c := range []struct {
		format int
		g      api.Geom
		want   string
	}{
		{api.AsText, oneTwo, "POINT (1 2)"},
		{api.AsHex, oneTwo, "POINT (0x1p+0 0x1p+1)"},
		{api.AsBig, oneTwo, string(hexa(t, bigOneTwo))},
		{api.AsLittle, oneTwo, string(hexa(t, littleOneTwo))},
		{api.AsDigits, oneTwo, "0101000000000000000000f03f0000000000000040"},
		{api.AsText, group, "MULTIPOINT (EMPTY, (1 2))"},
		{api.AsHex, group, "MULTIPOINT (EMPTY, (0x1p+0 0x1p+1))"},
		{api.AsBig, group, string(hexa(t, "00 00000004 00000002 00 00000001 7ff8000000000000 7ff8000000000000"+bigOneTwo))},
		{api.AsLittle, group, string(hexa(t, "01 04000000 02000000 01 01000000 000000000000f87f 000000000000f87f"+littleOneTwo))},
		{api.AsDigits, group, "0104000000020000000101000000000000000000f87f000000000000f87f0101000000000000000000f03f0000000000000040"},
		{api.AsText, sample.Line(), "LINESTRING EMPTY"},
		{api.AsHex, sample.Line(), "LINESTRING EMPTY"},
		{api.AsBig, sample.Line(), "\x00\x00\x00\x00\x02\x00\x00\x00\x00"},
		{api.AsLittle, sample.Line(), "\x01\x02\x00\x00\x00\x00\x00\x00\x00"},
		{api.AsDigits, sample.Line(), "010200000000000000"},
	} {
		if s, err := codec.Write(c.format, c.g); err != nil || string(s) != c.want {
			t.Errorf("P21.3: Write(%d, %v): %q, %v, want %q", c.format, c.g, s, err, c.want)
		}
		if g, err := codec.Read(c.format, []byte(c.want), 2); err != nil || !tree.Equal(g, c.g) {
			t.Errorf("P21.2: Read(%d, %q): %v, %v, want %v", c.format, c.want, g, err, c.g)
		}
	}
	for _, format := range []int{api.AsText, api.AsHex} {
		for _, text := range []string{"POINT (1 2)", "POINT (0x1p+0 0x1p+1)", "point(1e0 4/2)"} {
			if g, err := codec.Read(format, []byte(text), 1); err != nil || !tree.Equal(g, oneTwo) {
				t.Errorf("P21.2: Read(%d, %q): %v, %v", format, text, g, err)
			}
		}
	}
	for _, digits := range []string{"0101000000000000000000F03F0000000000000040", "0101000000000000000000f03F0000000000000040", "00000000013FF00000000000004000000000000000"} {
		if g, err := codec.Read(api.AsDigits, []byte(digits), 1); err != nil || !tree.Equal(g, oneTwo) {
			t.Errorf("P21.2: Read(AsDigits, %q): %v, %v", digits, g, err)
		}
	}
}

// P21.2, P21.3: a number that is no format, told ahead of all else.
func TestNoFormat(t *testing.T) {
	for _, format := range noFormats {
		for _, in := range []string{"", "POINT (1 2)", "x", strings.Repeat("0", 2*api.MaxText+3)} {
			for _, depth := range []int{0, 1, 9} {
				if g, err := codec.Read(format, []byte(in), depth); !isFault(err, 0, api.ErrFormat) || !isNothing(g) {
					t.Errorf("P21.2: Read(%d, %.20q, %d): %v, %v", format, in, depth, g, err)
				}
			}
		}
		for _, g := range []api.Geom{oneTwo, {}, {Kind: 9}} {
			if s, err := codec.Write(format, g); !isFault(err, 0, api.ErrFormat) || len(s) != 0 {
				t.Errorf("P21.3: Write(%d, %v): %q, %v", format, g, s, err)
			}
		}
	}
}

// P21.2: what is refused in which format, and what is told first.
func TestReadRefuses(t *testing.T) {
	point := func(order string) string { return map[string]string{"00": bigOneTwo, "01": littleOneTwo}[order] }
	inBig, inLittle := "00 00000004 00000001", "01 04000000 01000000"
	for _, c := range []struct {
		format int
		bytes  string // in hex digits
		depth  int
		at     int
		code   api.Errno
	}{
		{api.AsBig, littleOneTwo, 1, 0, api.ErrOrder},
		{api.AsLittle, bigOneTwo, 1, 0, api.ErrOrder},
		{api.AsBig, "02" + bigOneTwo[2:], 1, 0, api.ErrOrder},
		{api.AsBig, inBig + point("01"), 2, 9, api.ErrOrder},
		{api.AsLittle, inLittle + point("00"), 2, 9, api.ErrOrder},
		{api.AsBig, inLittle + point("00"), 2, 0, api.ErrOrder},
		{api.AsLittle, inBig + point("01"), 2, 0, api.ErrOrder},
		{api.AsBig, "00 00000004 00000003" + point("00") + point("01") + point("01"), 2, 30, api.ErrOrder},
		{api.AsBig, "00 00000004 00000003" + point("00") + point("00") + point("01"), 2, 51, api.ErrOrder},
		// What ParseWKB refuses is told ahead of an order, wherever both stand.
		{api.AsBig, littleOneTwo + "00", 1, 21, api.ErrTrail},
		{api.AsBig, littleOneTwo, 0, 0, api.ErrDepth},
		{api.AsBig, inLittle + point("01"), 1, 9, api.ErrDepth},
		{api.AsBig, "01 07000000 ffffffff", 9, 5, api.ErrCount},
		{api.AsLittle, "00 00000001 3ff0000000000000 7ff0000000000000", 9, 13, api.ErrCoord},
		{api.AsLittle, "00 00000001 3ff0000000000000", 9, 13, api.ErrEnd},
		{api.AsLittle, "00 00000008", 9, 1, api.ErrType},
		{api.AsLittle, inBig + "00 00000002 00000000" + strings.Repeat("00", 12), 9, 10, api.ErrMember},
		{api.AsLittle, "00 00000003 00000001 00000000" + strings.Repeat("00", 16), 9, 9, api.ErrRing},
		{api.AsBig, "", 9, 0, api.ErrEnd},
		{api.AsLittle, "", 9, 0, api.ErrEnd},
	} {
		b := hexa(t, c.bytes)
		if g, err := codec.Read(c.format, b, c.depth); !isFault(err, c.at, c.code) || !isNothing(g) {
			t.Errorf("P21.2: Read(%d, %s, %d): %v, %v, want %d at %d", c.format, c.bytes, c.depth, g, err, c.code, c.at)
		}
		// The digits of these bytes are read in any orders; a place is that of the byte.
		want, wrong := wkb.Parse(b, c.depth, api.MaxText)
		if g, err := codec.Read(api.AsDigits, []byte(hex.EncodeToString(b)), c.depth); !isLike(err, wrong) || !tree.Equal(g, want) {
			t.Errorf("P21.2: Read(AsDigits, %s, %d): %v, %v, want %v, %v", c.bytes, c.depth, g, err, want, wrong)
		}
	}
	for _, c := range []struct {
		format int
		in     string
		depth  int
		at     int
		code   api.Errno
	}{
		{api.AsText, "POINT (1 2", 1, 10, api.ErrSyntax},
		{api.AsHex, "POINT (1 2", 1, 10, api.ErrSyntax},
		{api.AsText, "POINT (1 1/0)", 1, 9, api.ErrRange},
		{api.AsHex, "POINT (0x1p1024 1)", 1, 7, api.ErrRange},
		{api.AsText, "MULTIPOINT (1 2)", 1, 12, api.ErrDepth},
		{api.AsHex, "", 1, 0, api.ErrSyntax},
		{api.AsDigits, "0", 1, 1, api.ErrHex},
		{api.AsDigits, "0g", 1, 1, api.ErrHex},
		{api.AsDigits, " 00", 1, 0, api.ErrHex},
		{api.AsDigits, "", 1, 0, api.ErrEnd},
		{api.AsDigits, "02", 1, 0, api.ErrOrder},
		// Unhex's error ahead of what is wrong with the bytes, and at the digit's place.
		{api.AsDigits, "02\n", 1, 2, api.ErrHex},
		{api.AsDigits, "0200000", 1, 7, api.ErrHex},
		{api.AsDigits, "0107000000ffffffff", 1, 5, api.ErrCount},
		{api.AsDigits, "0107000000fffffffg", 1, 17, api.ErrHex},
		{api.AsDigits, "0107000000ffffffff0", 1, 19, api.ErrHex},
		{api.AsDigits, "POINT (1 2)", 1, 0, api.ErrHex},
		{api.AsDigits, "\x00", 1, 0, api.ErrHex},
	} {
		if g, err := codec.Read(c.format, []byte(c.in), c.depth); !isFault(err, c.at, c.code) || !isNothing(g) {
			t.Errorf("P21.2: Read(%d, %q, %d): %v, %v, want %d at %d", c.format, c.in, c.depth, g, err, c.code, c.at)
		}
	}
}

// P21.2: bytes whose geometries have any orders: the first that has another is told by its place.
func TestReadOrders(t *testing.T) {
	rule := sample.Rule(212)
	inside := 0
	for range 6 {
		for _, g := range sample.Trees() {
			places, size := begins(g, 0)
			orders := someOrders(&rule, len(places))
			b, err := wkb.Mixed(g, orders)
			if err != nil || len(b) != size {
				t.Fatalf("Mixed(%v): %d bytes, %v, want %d", g, len(b), err, size)
			}
			for format, little := range map[int]bool{api.AsBig: false, api.AsLittle: true} {
				got, err := codec.Read(format, b, api.MaxDepth)
				i := slices.Index(orders, !little)
				switch {
				case i >= 0:
					if !isFault(err, places[i], api.ErrOrder) || !isNothing(got) {
						t.Fatalf("P21.2: Read(%d, %x): %v, %v, want ErrOrder at %d", format, b, got, err, places[i])
					}
					if i > 1 {
						inside++
					}
				case err != nil || !tree.Equal(got, g):
					t.Fatalf("P21.2: Read(%d, %x): %v, %v, want %v", format, b, got, err, g)
				}
			}
			if got, err := codec.Read(api.AsDigits, []byte(octet.Hex(b)), api.MaxDepth); err != nil || !tree.Equal(got, g) {
				t.Fatalf("P21.2: Read(AsDigits, %x): %v, %v, want %v", b, got, err, g)
			}
		}
	}
	if inside < 100 {
		t.Errorf("only %d trees with another order inside", inside)
	}
}

// P21.2: an empty point has any NaN, and what stands behind it is found where it is.
func TestReadOtherEmptyPoints(t *testing.T) {
	none := "00 00000001 fff0000000000001 7fffffffffffffff"
	b := hexa(t, "00 00000004 00000002"+none+bigOneTwo)
	if g, err := codec.Read(api.AsBig, b, 2); err != nil || !tree.Equal(g, sample.Group(api.Points, sample.Point(), oneTwo)) {
		t.Errorf("P21.2: Read(AsBig, %x): %v, %v", b, g, err)
	}
	b = hexa(t, "00 00000004 00000002"+none+littleOneTwo)
	if g, err := codec.Read(api.AsBig, b, 2); !isFault(err, 30, api.ErrOrder) || !isNothing(g) {
		t.Errorf("P21.2: Read(AsBig, %x): %v, %v", b, g, err)
	}
}

// P21.2, P21.3: texts and bytes at MaxText and past it: all are written, but none past it is read.
func TestMaxText(t *testing.T) {
	lines := slices.Repeat([]api.Geom{sample.Line()}, 7278)
	just := sample.Group(7, append(slices.Clone(lines), sample.Line(sample.At(0, 0)))...)
	over := sample.Group(7, append(slices.Clone(lines[:7274]), sample.Line(sample.At(0, 0), sample.At(0, 0)), sample.Point())...)
	for _, format := range []int{api.AsBig, api.AsLittle, api.AsDigits} {
		digits := 1
		if format == api.AsDigits {
			digits = 2
		}
		b, err := codec.Write(format, just)
		if err != nil || len(b) != digits*api.MaxText {
			t.Fatalf("P21.3: Write(%d): %d bytes, %v", format, len(b), err)
		}
		if g, err := codec.Read(format, b, 2); err != nil || !tree.Equal(g, just) {
			t.Errorf("P21.2: Read(%d) of %d bytes: %v", format, len(b), err)
		}
		b, err = codec.Write(format, over)
		if err != nil || len(b) != digits*(api.MaxText+1) {
			t.Fatalf("P21.3: Write(%d): %d bytes, %v", format, len(b), err)
		}
		if g, err := codec.Read(format, b, 2); !isFault(err, api.MaxText, api.ErrSize) || !isNothing(g) {
			t.Errorf("P21.2: Read(%d) of %d bytes: %v", format, len(b), err)
		}
		if format == api.AsDigits { // what are no digits is told ahead of their number
			if _, err := codec.Read(format, append(b, '0'), 2); !isFault(err, len(b)+1, api.ErrHex) {
				t.Errorf("P21.2: Read(%d) of %d digits: %v", format, len(b)+1, err)
			}
			b[len(b)-1] = 'x'
			if _, err := codec.Read(format, b, 2); !isFault(err, len(b)-1, api.ErrHex) {
				t.Errorf("P21.2: Read(%d), the last no digit: %v", format, err)
			}
		}
	}
	for _, format := range []int{api.AsText, api.AsHex} {
		text := []byte("POINT (1 2)" + strings.Repeat(" ", api.MaxText-11))
		if g, err := codec.Read(format, text, 1); err != nil || !tree.Equal(g, oneTwo) {
			t.Errorf("P21.2: Read(%d) of 65536 bytes: %v", format, err)
		}
		if g, err := codec.Read(format, append(text, ' '), 1); !isFault(err, api.MaxText, api.ErrSize) || !isNothing(g) {
			t.Errorf("P21.2: Read(%d) of 65537 bytes: %v", format, err)
		}
		long := sample.Line(slices.Repeat([]api.Point{sample.At(1, 2)}, api.MaxPoints-1)...)
		if b, err := codec.Write(format, long); err != nil || len(b) <= api.MaxText {
			t.Errorf("P21.3: Write(%d) of a tree of 65535 points: %d bytes, %v", format, len(b), err)
		}
	}
}

// P21.2: the depth limit in every format, MaxDepth past which none goes.
func TestReadDepth(t *testing.T) {
	deepest, deeper := sample.Deep(api.MaxDepth, oneTwo), sample.Deep(api.MaxDepth-1, oneTwo)
	word := "GEOMETRYCOLLECTION ("
	for _, format := range formats {
		b, err := codec.Write(format, deepest)
		if err != nil {
			t.Fatalf("P21.3: Write(%d) of 256 levels: %v", format, err)
		}
		for _, depth := range []int{256, 257, math.MaxInt} {
			if g, err := codec.Read(format, b, depth); err != nil || !tree.Equal(g, deepest) {
				t.Errorf("P21.2: Read(%d) of 256 levels, %d allowed: %v", format, depth, err)
			}
		}
		each := 9 // bytes of a level
		if format <= api.AsHex {
			each = len(word)
		}
		for _, depth := range []int{0, 1, 2, 255} {
			if g, err := codec.Read(format, b, depth); !isFault(err, depth*each, api.ErrDepth) || !isNothing(g) {
				t.Errorf("P21.2: Read(%d) of 256 levels, %d allowed: %v", format, depth, err)
			}
		}
		b, _ = codec.Write(format, deeper)
		if g, err := codec.Read(format, b, 255); err != nil || !tree.Equal(g, deeper) {
			t.Errorf("P21.2: Read(%d) of 255 levels: %v", format, err)
		}
	}
	text := strings.Repeat(word, 256) + "POINT EMPTY" + strings.Repeat(")", 256)
	if _, err := codec.Read(api.AsText, []byte(text), math.MaxInt); !isFault(err, 256*len(word), api.ErrDepth) {
		t.Errorf("P21.2: Read(AsText) of 257 levels: %v", err)
	}
	b := hexa(t, strings.Repeat("00 00000007 00000001", 256)+bigOneTwo)
	for _, format := range []int{api.AsBig, api.AsLittle} {
		if _, err := codec.Read(format, b, math.MaxInt); !isFault(err, 256*9, api.ErrDepth) {
			t.Errorf("P21.2: Read(%d) of 257 levels: %v", format, err)
		}
	}
}

// P21.3: what each format writes is what the layers below write; of a Geom that is no tree their error.
func TestWriteIsByTheTable(t *testing.T) {
	rule := sample.Rule(213)
	list := append(sample.Trees(), api.Geom{}, api.Geom{Kind: 8}, sample.Deep(257, sample.Point()), sample.Polygon(nil),
		sample.Group(7, oneTwo, sample.Point(api.Point{X: 0x7ff0000000000000})), sample.Line(make([]api.Point, api.MaxPoints)...))
	for range 2000 {
		list = append(list, rule.Geom(1+rule.Below(3)))
	}
	refused := 0
	for _, g := range list {
		wrong := tree.Check(g)
		if wrong != nil {
			refused++
		}
		want := map[int]string{}
		want[api.AsText], _ = print.Text(g, api.Shortest)
		want[api.AsHex], _ = print.Text(g, api.HexFloat)
		big, _ := wkb.Print(g, false)
		little, _ := wkb.Print(g, true)
		want[api.AsBig], want[api.AsLittle], want[api.AsDigits] = string(big), string(little), hex.EncodeToString(little)
		for _, format := range formats {
			if s, err := codec.Write(format, g); !isLike(err, wrong) || string(s) != want[format] {
				t.Fatalf("P21.3: Write(%d, %v): %q, %v, want %q, %v", format, g, s, err, want[format], wrong)
			}
		}
	}
	if refused < 500 {
		t.Errorf("only %d refused", refused)
	}
}
