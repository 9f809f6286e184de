package expand_test

import (
	"cmp"
	"math"
	"math/big"
	"slices"
	"strconv"
	"strings"
	"sync"
	"testing"

	"plumb/api"
	"plumb/expand"
	"plumb/near"
	"plumb/ryu"
	"plumb/sample"
)

// value gives the exact size of a finite pattern.
func value(b uint64) *big.Rat {
	return new(big.Rat).SetFloat64(math.Float64frombits(b &^ minus))
}

// ten gives ten to the n.
func ten(n int) *big.Rat {
	out := new(big.Rat).SetInt(new(big.Int).Exp(big.NewInt(10), big.NewInt(int64(max(n, -n))), nil))
	if n < 0 {
		out.Inv(out)
	}
	return out
}

// number gives digits times ten to the e.
func number(digits string, e int) *big.Rat {
	whole, ok := new(big.Int).SetString(digits, 10)
	if !ok {
		return big.NewRat(-1, 1)
	}
	return new(big.Rat).Mul(new(big.Rat).SetInt(whole), ten(e))
}

// whole gives a number, not below 0, rounded to a whole one; of two as near the even one.
func whole(q *big.Rat) *big.Int {
	out, rest := new(big.Int).QuoRem(q.Num(), q.Denom(), new(big.Int))
	half := rest.Lsh(rest, 1).Cmp(q.Denom())
	if half > 0 || half == 0 && out.Bit(0) == 1 {
		out.Add(out, big.NewInt(1))
	}
	return out
}

// some gives every so many of the patterns, beginning at one or another of them.
func some(step int) []uint64 {
	var out []uint64
	for i, b := range sample.Patterns() {
		if (i/step+i)%step == 0 {
			out = append(out, b)
		}
	}
	return out
}

// P13.1: digits alone, no 0 at either end, and exact.
func TestDigitsAreExact(t *testing.T) {
	for _, b := range sample.Patterns() {
		d, e, bad := expand.Digits(b)
		if bad != api.OK || strings.Trim(d, "0123456789") != "" || number(d, e).Cmp(value(b)) != 0 {
			t.Errorf("Digits(%x) = %s, %d, %d", b, d, e, bad)
		}
		if b&^minus == 0 && d == "0" && e == 0 {
			continue
		}
		if d == "" || d[0] == '0' || d[len(d)-1] == '0' {
			t.Errorf("Digits(%x) = %s, %d", b, d, e)
		}
	}
}

// fixed gives what Fixed answers, by the definition.
func fixed(b uint64, n int) string {
	text := whole(new(big.Rat).Mul(value(b), ten(n))).Text(10)
	text = strings.Repeat("0", max(n+1-len(text), 0)) + text
	if n > 0 {
		text = text[:len(text)-n] + "." + text[len(text)-n:]
	}
	if b&minus != 0 {
		text = "-" + text
	}
	return text
}

// P13.2: the definition, of every kind of pattern.
func TestFixedIsTheDefinition(t *testing.T) {
	rule := sample.Rule(13)
	for _, b := range some(7) {
		for _, n := range []int{0, 1, 17, rule.Below(40), rule.Below(api.MaxFixed + 1)} {
			if s, bad := expand.Fixed(b, n); s != fixed(b, n) || bad != api.OK {
				t.Errorf("Fixed(%x, %d) = %s, %d, want %s", b, n, s, bad, fixed(b, n))
			}
		}
	}
}

// around gives how many digits behind the point a number's first digit asks for, and its last; and numbers next to these.
func around(b uint64) []int {
	d, e, _ := expand.Digits(b)
	var out []int
	for _, n := range []int{-e - len(d), -e} {
		for off := -2; off <= 3; off++ {
			if n+off >= 0 && n+off <= api.MaxFixed {
				out = append(out, n+off)
			}
		}
	}
	return out
}

// P13.2: the definition, where the first digit is the last that counts, or none does, and where a tie may be.
func TestFixedAroundItsDigits(t *testing.T) {
	for _, b := range some(11) {
		for _, n := range around(b) {
			if s, bad := expand.Fixed(b, n); s != fixed(b, n) || bad != api.OK {
				t.Errorf("Fixed(%x, %d) = %s, %d, want %s", b, n, s, bad, fixed(b, n))
			}
		}
	}
}

// holdPrecise holds Precise to the definition.
func holdPrecise(t *testing.T, b uint64, n int) {
	t.Helper()
	d, e, bad := expand.Precise(b, n)
	if b&^minus == 0 {
		if d != strings.Repeat("0", n) || e != 0 || bad != api.OK {
			t.Errorf("Precise(%x, %d) = %s, %d, %d", b, n, d, e, bad)
		}
		return
	}
	size := value(b)
	exp := int(math.Floor(math.Log10(math.Float64frombits(b&^minus)))) - n + 1
	// A logarithm by floats may be one too great or too small.
	for size.Cmp(ten(n-1+exp)) < 0 {
		exp--
	}
	for size.Cmp(ten(n+exp)) >= 0 {
		exp++
	}
	want := whole(size.Mul(size, ten(-exp))).Text(10)
	if len(want) > n {
		want = want[:n]
		exp++
	}
	if d != want || e != exp || bad != api.OK {
		t.Errorf("Precise(%x, %d) = %s, %d, %d, want %s, %d", b, n, d, e, bad, want, exp)
	}
}

// P13.3: the definition, of every kind of pattern; where a tie may be, too.
func TestPreciseIsTheDefinition(t *testing.T) {
	rule := sample.Rule(133)
	for _, b := range some(11) {
		d, _, _ := expand.Digits(b)
		for _, n := range []int{1, 2, 16, 1 + rule.Below(30), 1 + rule.Below(api.MaxFixed), max(len(d)-1, 1), len(d), len(d) + 1} {
			holdPrecise(t, b, n)
		}
	}
}

// P13.4: ryu's answers, of every kind of pattern.
func TestShortestIsRyus(t *testing.T) {
	list := sample.Patterns()
	rule := sample.Rule(134)
	for range 2000 {
		if b := rule.Next(); b>>52&2047 != 2047 {
			list = append(list, b, b>>12)
		}
	}
	for _, b := range list {
		d, e, bad := expand.Shortest(b)
		want, exp, _ := ryu.Shortest(b)
		if d != strconv.FormatUint(want, 10) || e != exp || bad != api.OK {
			t.Errorf("Shortest(%x) = %s, %d, %d, want %d, %d", b, d, e, bad, want, exp)
		}
	}
}

// P13.5: all digits, the shortest, and 17 or more are read back.
func TestDigitsAreReadBack(t *testing.T) {
	rule := sample.Rule(135)
	for _, b := range some(7) {
		read := func(d string, e int, bad api.Errno) {
			t.Helper()
			whole, _ := new(big.Int).SetString(d, 10)
			num, den := sample.Words(whole), []uint64{1}
			if e < 0 {
				den = sample.Words(ten(-e).Num())
			} else {
				num = sample.Words(whole.Mul(whole, ten(e).Num()))
			}
			back, refused := near.Quotient(false, num, den, api.Even)
			if bad != api.OK || refused != api.OK || back != b&^minus {
				t.Errorf("%s, %d of %x is read as %x, %d", d, e, b, back, refused)
			}
		}
		read(expand.Digits(b))
		read(expand.Shortest(b))
		read(expand.Precise(b, 17))
		read(expand.Precise(b, 17+rule.Below(10)))
		read(expand.Precise(b, 17+rule.Below(api.MaxFixed-16)))
	}
}

// P13.5: with as many digits as there are, or more, nothing is rounded.
func TestEnoughDigitsAreExact(t *testing.T) {
	for _, b := range some(11) {
		all, exp, _ := expand.Digits(b)
		for _, more := range []int{0, 1, 7, 300} {
			n := len(all) + more
			d, e, _ := expand.Precise(b, n)
			if n <= api.MaxFixed && (d != all+strings.Repeat("0", more) || all != "0" && e != exp-more) {
				t.Errorf("Precise(%x, %d) = %s, %d", b, n, d, e)
			}
			n = max(-exp, 0) + more
			if n > api.MaxFixed {
				continue
			}
			s, _ := expand.Fixed(b, n)
			if q, ok := new(big.Rat).SetString(strings.TrimPrefix(s, "-")); !ok || q.Cmp(value(b)) != 0 {
				t.Errorf("Fixed(%x, %d) = %s", b, n, s)
			}
		}
	}
}

// cutText gives the first n digits of a text that is Digits', rounded, by the text alone; n may be below 0, or past the end.
func cutText(digits string, n int) string {
	if n < 0 {
		return "0"
	}
	if n >= len(digits) {
		return digits + strings.Repeat("0", n-len(digits))
	}
	head, _ := new(big.Int).SetString("0"+digits[:n], 10)
	// The last digit isn't 0: so texts that are greater than a 5 are more than a half.
	if tail := digits[n:]; tail > "5" || tail == "5" && head.Bit(0) == 1 {
		head.Add(head, big.NewInt(1))
	}
	return head.Text(10)
}

// P13.5: cutting Digits' text and rounding it gives what Fixed and Precise answer.
func TestDigitsMayBeCut(t *testing.T) {
	rule := sample.Rule(136)
	for _, b := range some(7) {
		all, exp, _ := expand.Digits(b)
		for _, n := range []int{0, 3, rule.Below(60), rule.Below(api.MaxFixed + 1)} {
			s, _ := expand.Fixed(b, n)
			got := strings.TrimLeft(strings.NewReplacer("-", "", ".", "").Replace(s), "0")
			if want := strings.TrimLeft(cutText(all, len(all)+exp+n), "0"); got != want {
				t.Errorf("Fixed(%x, %d) = %s, but the digits cut are %s", b, n, s, want)
			}
			n = max(n, 1)
			d, e, _ := expand.Precise(b, n)
			want := cutText(all, n)
			if b&^minus != 0 && number(d, e).Cmp(number(want, exp+len(all)-n)) != 0 {
				t.Errorf("Precise(%x, %d) = %s, %d, but the digits cut are %s", b, n, d, e, want)
			}
		}
	}
}

// P13.5: of two patterns with the sign bit 0 the greater has not the lesser number in its Fixed.
func TestFixedDoesNotFall(t *testing.T) {
	var list []uint64
	for _, b := range some(7) {
		list = append(list, b&^minus)
	}
	for b := pattern(0.5) - 20; b < pattern(0.5)+20; b++ {
		list = append(list, b, b+1<<52, b+2<<52)
	}
	slices.Sort(list)
	for _, n := range []int{0, 1, 5, 16, 100, 323, 324, 400} {
		last := ""
		for _, b := range list {
			s, _ := expand.Fixed(b, n)
			// All have n digits behind the point and no zeros ahead: the longer is the greater.
			if cmp.Or(cmp.Compare(len(s), len(last)), cmp.Compare(s, last)) < 0 {
				t.Errorf("Fixed(%x, %d) = %s, but of a lesser pattern it is %s", b, n, s, last)
			}
			last = s
		}
	}
}

// answers gives all that the calls answer, as one text.
func answers(b uint64, n int) string {
	all, exp, e := expand.Digits(b)
	short, shortExp, f := expand.Shortest(b)
	fixed, g := expand.Fixed(b, n)
	first, firstExp, h := expand.Precise(b, n)
	out := []string{all, short, fixed, first}
	for _, v := range []int{exp, shortExp, firstExp, int(e), int(f), int(g), int(h)} {
		out = append(out, strconv.Itoa(v))
	}
	return strings.Join(out, " ")
}

// P13.6: the same answers again, in another order, and from many callers at once.
func TestNothingIsKept(t *testing.T) {
	list := append(some(30), strange()...)
	want := make([]string, len(list))
	for i, b := range list {
		want[i] = answers(b, i%60)
	}
	var all sync.WaitGroup
	for from := range 4 {
		all.Go(func() {
			for i := len(list) - 1 - from; i >= 0; i -= 4 {
				if got := answers(list[i], i%60); got != want[i] {
					t.Errorf("of %x: %s the second time, %s the first", list[i], got, want[i])
				}
			}
		})
	}
	all.Wait()
}
