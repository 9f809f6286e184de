package octet_test

import (
	"encoding/hex"
	"slices"
	"strings"
	"testing"

	"plumb/api"
	"plumb/octet"
	"plumb/sample"
)

// P16.5: the chapter's example 5, and each byte there is.
func TestHex(t *testing.T) {
	for _, c := range []struct {
		b    []byte
		want string
	}{
		{[]byte{0, 0xab, 0xff}, "00abff"}, {nil, ""}, {[]byte{}, ""}, {[]byte{1, 0x23, 0x45, 0x67, 0x89, 0xcd, 0xef}, "0123456789cdef"},
	} {
		if got := octet.Hex(c.b); got != c.want {
			t.Errorf("P16.5: Hex(%x) = %q, want %q", c.b, got, c.want)
		}
	}
	for c := range 256 {
		b := []byte{byte(c)}
		if got := octet.Hex(b); got != hex.EncodeToString(b) {
			t.Errorf("P16.5: Hex of %d = %q", c, got)
		}
	}
}

// P16.6: the chapter's example 5; wrong signs ahead of an odd length, and such as stand next to digits.
func TestUnhex(t *testing.T) {
	for _, c := range []struct {
		s, want string
		e       api.Errno
		at      int
	}{
		{"00ABff", "\x00\xab\xff", api.OK, 0},
		{"", "", api.OK, 0},
		{"aBcDeF", "\xab\xcd\xef", api.OK, 0},
		{"0123456789", "\x01\x23\x45\x67\x89", api.OK, 0},
		{"0", "", api.ErrHex, 1},
		{"0g0", "", api.ErrHex, 1},
		{"é0", "", api.ErrHex, 0},
		{"0é", "", api.ErrHex, 1},
		{"00 ", "", api.ErrHex, 2},
		{" 00", "", api.ErrHex, 0},
		{"g", "", api.ErrHex, 0},
		{"0x12", "", api.ErrHex, 1},
		{"abc", "", api.ErrHex, 3},
		{"12345", "", api.ErrHex, 5},
		{"zz0", "", api.ErrHex, 0},
		{"00g0h", "", api.ErrHex, 2},
		{"0000G", "", api.ErrHex, 4},
		{"00\x00", "", api.ErrHex, 2},
		{"0\xff", "", api.ErrHex, 1},
		{"0000\n", "", api.ErrHex, 4},
		{"+1", "", api.ErrHex, 0},
		{"\u0661\u0662", "", api.ErrHex, 0},
	} {
		b, err := octet.Unhex(c.s)
		if string(b) != c.want || c.e == api.OK && err != nil || c.e != api.OK && !fault(err, c.e, c.at) {
			t.Errorf("P16.6: Unhex(%q) = %x, %v, want %x, %d at %d", c.s, b, err, c.want, c.e, c.at)
		}
	}
}

// P16.6: which bytes are digits, at each place of a text of an even and of an odd length.
func TestUnhexOfEachByte(t *testing.T) {
	for c := range 256 {
		for n := 1; n < 6; n++ {
			for at := range n {
				s := strings.Repeat("0", at) + string([]byte{byte(c)}) + strings.Repeat("0", n-1-at)
				want, _ := hex.DecodeString(s)
				place := -1
				switch {
				case !strings.Contains("0123456789abcdefABCDEF", s[at:at+1]):
					place = at
				case n%2 == 1:
					place = n
				}
				b, err := octet.Unhex(s)
				if place >= 0 && (len(b) != 0 || !fault(err, api.ErrHex, place)) || place < 0 && (!slices.Equal(b, want) || err != nil) {
					t.Errorf("P16.6: Unhex(%q) = %x, %v, want %x, place %d", s, b, err, want, place)
				}
			}
		}
	}
}

// P16.7: hex digits there and back, of either case.
func TestHexThereAndBack(t *testing.T) {
	rule := sample.Rule(166)
	for n := range 300 {
		b := some(&rule, n)
		s := octet.Hex(b)
		if len(s) != 2*n || strings.Trim(s, "0123456789abcdef") != "" {
			t.Errorf("P16.5: Hex(%x) = %q", b, s)
		}
		if back, err := octet.Unhex(s); !slices.Equal(back, b) || err != nil {
			t.Errorf("P16.7: Unhex(Hex(%x)) = %x, %v", b, back, err)
		}
		mixed := []byte(s)
		for i := range mixed {
			if mixed[i] >= 'a' && rule.Below(2) == 0 {
				mixed[i] -= 'a' - 'A'
			}
		}
		for _, other := range []string{strings.ToUpper(s), string(mixed)} {
			if back, err := octet.Unhex(other); err != nil || octet.Hex(back) != s {
				t.Errorf("P16.7: Hex(Unhex(%q)) = %q, %v", other, octet.Hex(back), err)
			}
		}
	}
}

// P16.6, P16.7: no limit is set to the length.
func TestHexOfMany(t *testing.T) {
	rule := sample.Rule(167)
	b := some(&rule, 3*api.MaxText+1)
	s := octet.Hex(b)
	if back, err := octet.Unhex(s); !slices.Equal(back, b) || err != nil {
		t.Errorf("P16.7: of many bytes %d come back, %v", len(back), err)
	}
	if back, err := octet.Unhex(s + "0"); len(back) != 0 || !fault(err, api.ErrHex, len(s)+1) {
		t.Errorf("P16.6: of many digits and one more: %d bytes, %v", len(back), err)
	}
}

// P16.8: what is handed in stays, its spare room too; answers are memory of their own.
func TestHexMemory(t *testing.T) {
	whole := []byte{1, 0xab, 3, 4, 5}
	before := slices.Clone(whole)
	s := octet.Hex(whole[:2])
	a, _ := octet.Unhex(s)
	b, _ := octet.Unhex(s)
	spoil(a)
	if s != "01ab" || string(b) != "\x01\xab" || !slices.Equal(whole, before) {
		t.Errorf("P16.8: %q, %x, %x", s, b, whole)
	}
	if c, err := octet.Unhex(s); string(c) != "\x01\xab" || err != nil {
		t.Errorf("P16.8: %x the second time, %v", c, err)
	}
	_, x := octet.Unhex("0g")
	_, y := octet.Unhex("0g")
	x.(*api.Fault).At = 77
	if !fault(y, api.ErrHex, 1) {
		t.Errorf("P16.8: an error written into is told again: %v", y)
	}
}
