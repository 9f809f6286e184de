package radix_test

import (
	"slices"
	"strings"
	"testing"

	"plumb/nat"
	"plumb/quot"
	"plumb/radix"
	"plumb/sample"
)

// P4.6: Text of Parse is the text with its letters small and without the zeros ahead.
func TestTextTakesParseBack(t *testing.T) {
	for base := 2; base <= 36; base++ {
		all := "0123456789abcdefghijklmnopqrstuvwxyz"[:base]
		for _, s := range []string{"0", "00", "1", "01", "10", all, all + all + all, strings.ToUpper(all), "000" + strings.ToUpper(all) + "000"} {
			want := strings.TrimLeft(strings.ToLower(s), "0")
			if want == "" {
				want = "0"
			}
			if got := texted(t, parsed(t, s, base), base); got != want {
				t.Errorf("Text(Parse(%q, %d)) = %q", s, base, got)
			}
		}
	}
}

// P4.6: a text behind another.
func TestParseOfTwoTexts(t *testing.T) {
	must := sample.Must(t)
	for _, base := range []int{2, 3, 10, 16, 36} {
		for _, x := range sample.Lists() {
			for _, y := range sample.Lists()[:20] {
				high, low := texted(t, x, base), "00"+texted(t, y, base)
				power := must(quot.Pow(nat.From(uint64(base)), len(low)))
				want := must(nat.Add(must(nat.Mul(parsed(t, high, base), power)), parsed(t, low, base)))
				if got := parsed(t, high+low, base); !slices.Equal(got, want) {
					t.Errorf("Parse(%q + %q, %d) = %x, want %x", high, low, base, got, want)
				}
			}
		}
	}
}

// P4.6
func TestPowerLaws(t *testing.T) {
	must := sample.Must(t)
	for a := 0; a < 300; a += 7 {
		for b := 0; b < 300; b += 11 {
			if got := must(nat.Mul(must(radix.Five(a)), must(radix.Five(b)))); !slices.Equal(got, must(radix.Five(a+b))) {
				t.Errorf("Five(%d) * Five(%d) = %x", a, b, got)
			}
			if got := must(nat.Mul(must(radix.Ten(a)), must(radix.Ten(b)))); !slices.Equal(got, must(radix.Ten(a+b))) {
				t.Errorf("Ten(%d) * Ten(%d) = %x", a, b, got)
			}
		}
	}
	for _, n := range []int{0, 1, 18, 19, 20, 37, 38, 39, 300, 5000, 78913} {
		ten := must(radix.Ten(n))
		if !slices.Equal(ten, must(nat.Shl(must(radix.Five(n)), n))) {
			t.Errorf("Ten(%d) isn't Five shifted", n)
		}
		if s := texted(t, ten, 10); s != "1"+strings.Repeat("0", n) {
			t.Errorf("Text(Ten(%d)) = %.60q", n, s)
		}
		if x, k := radix.Trim(ten); k != n || !slices.Equal(x, list{1}) {
			t.Errorf("Trim(Ten(%d)) = %d words, %d", n, len(x), k)
		}
	}
}

// answers are all lists that calls answer for these arguments.
func answers(x list) []list {
	s, _ := radix.Text(x, 7)
	back, _ := radix.Parse(s, 7)
	one, _ := radix.Parse("1", 10)
	none, _ := radix.Parse("0", 10)
	noFive, _ := radix.Five(0)
	five, _ := radix.Five(40)
	noTen, _ := radix.Ten(0)
	ten, _ := radix.Ten(40)
	trimmed, _ := radix.Trim(x)
	again, _ := radix.Trim(ten)
	return []list{back, one, none, noFive, five, noTen, ten, trimmed, again, {uint64(radix.Count(x))}}
}

// P4.7, P0.1, P0.2: what is handed in stays as it is with its spare room, and what is done to an answer is seen nowhere else.
func TestMemory(t *testing.T) {
	calls := func(in []list) []list { return answers(in[0]) }
	for _, x := range sample.Lists() {
		if fault := sample.Memory(calls, x); fault != "" {
			t.Fatalf("of %x: %s", x, fault)
		}
	}
}
