package atof_test

import (
	"errors"
	"slices"
	"strings"
	"testing"

	"plumb/api"
	"plumb/atof"
	"plumb/sample"
)

// P11.3: the chapter's example 7, and blanks of all kinds ahead, between and behind.
func TestList(t *testing.T) {
	const two, three, half = 0x4000000000000000, 0x4008000000000000, 0x3fe0000000000000
	for _, c := range []struct {
		s    string
		want []uint64
	}{
		{"1 0.5\n\t-0", []uint64{one, half, minus}},
		{"", nil},
		{" \r\n", nil},
		{" ", nil},
		{"1", []uint64{one}},
		{"\t\n\r 1", []uint64{one}},
		{"1\r\n\t ", []uint64{one}},
		{"1 2\t3\n1\r2", []uint64{one, two, three, one, two}},
		{" 1/2  0x1p-1 \r\n 5e-1 ", []uint64{half, half, half}},
		{"1 1 1", []uint64{one, one, one}},
		{"-1e-999 0 +0", []uint64{minus, 0, 0}},
	} {
		if got, err := atof.List(c.s); !slices.Equal(got, c.want) || err != nil {
			t.Errorf("List(%q) = %x, %v, want %x", c.s, got, err, c.want)
		}
	}
}

// P11.3: the first wrong piece tells the error, its place counted from the text's beginning; there is no list then.
func TestListRefuses(t *testing.T) {
	for _, c := range []struct {
		s    string
		at   int
		code api.Errno
	}{
		{"1 2x 3", 3, api.ErrNumeral},
		{"1 1e999", 2, api.ErrOverflow},
		{"1,2", 1, api.ErrNumeral},
		{"x", 0, api.ErrNumeral},
		{"  x", 2, api.ErrNumeral},
		{"1 2 3e", 5, api.ErrExpo},
		{"\n\n12e+ 1/0", 4, api.ErrExpo},
		{"1 2-3 x", 3, api.ErrSign},
		{"1 1/0 x", 2, api.ErrZeroDen},
		{"1 -2e400 1/0", 2, api.ErrOverflow},
		{"1 / 2", 2, api.ErrNumeral},
		{"- 1", 0, api.ErrNumeral},
		{"1e 5", 1, api.ErrExpo},
		{"1\v2", 1, api.ErrNumeral},
		{"1\f2", 1, api.ErrNumeral},
		{"1 \v", 2, api.ErrNumeral},
		{"1\x00", 1, api.ErrNumeral},
		{"1 2\u00a03", 3, api.ErrNumeral},
		{"1 \u2003", 2, api.ErrNumeral},
		{"1 2\x85", 3, api.ErrNumeral},
		{"1 nan", 2, api.ErrNumeral},
		{"1 \xff\xfe 2", 2, api.ErrNumeral},
		{"7 " + strings.Repeat("1", 65537) + " 7", 2 + 65536, api.ErrNumeral},
		{strings.Repeat("1 ", 50000) + "?", 100000, api.ErrNumeral},
	} {
		got, err := atof.List(c.s)
		if len(got) != 0 || !isFault(err, c.at, c.code) {
			t.Errorf("List(%.40q) = %x, %v, want %d at %d", c.s, got, err, c.code, c.at)
		}
		var fault *api.Fault
		if !errors.Is(err, c.code) || !errors.As(err, &fault) {
			t.Errorf("List(%.40q): %v is no Fault with its Errno", c.s, err)
		}
	}
}

// P11.3, P11.7: a text has no bound, each numeral in it has that of lex.
func TestLongList(t *testing.T) {
	piece := strings.Repeat("0", 65535) + "1"
	got, err := atof.List(strings.Repeat(piece+"\n", 20))
	if err != nil || !slices.Equal(got, sample.Of(20, one)) {
		t.Errorf("%d patterns, %v", len(got), err)
	}
	got, err = atof.List(strings.Repeat("1 ", 100000))
	if err != nil || !slices.Equal(got, sample.Of(100000, one)) {
		t.Errorf("%d patterns, %v", len(got), err)
	}
}

// P11.7: a list is new memory, its spare room too.
func TestListIsNew(t *testing.T) {
	for _, s := range []string{"1", "1 2 3", "0 0 0 0 0 0 0 0 0", ""} {
		if wrong := sample.Memory(func([][]uint64) [][]uint64 {
			a, _ := atof.List(s)
			b, _ := atof.List(s)
			return [][]uint64{a, b}
		}); wrong != "" {
			t.Errorf("List(%q): %s", s, wrong)
		}
	}
}
