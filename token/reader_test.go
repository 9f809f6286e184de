package token_test

import (
	"slices"
	"sync"
	"testing"

	"plumb/api"
	"plumb/sample"
	"plumb/token"
)

// ask is Next or Peek of a reader.
type ask = func() (api.Token, error)

// told holds what is asked to a token.
func told(t *testing.T, what string, a ask, want api.Token) {
	t.Helper()
	if got, err := a(); err != nil || got != want {
		t.Errorf("P18.2: %q: %v, %v, want %v", what, got, err, want)
	}
}

// wrong holds what is asked to an error at a place.
func wrong(t *testing.T, what string, a ask, at int) {
	t.Helper()
	if got, err := a(); got != (api.Token{}) || !isFault(err, at) {
		t.Errorf("P18.2: %q: %v, %v, want an error at %d", what, got, err, at)
	}
}

// P18.2, P18.3: the chapter's example 3.
func TestReaderExamples(t *testing.T) {
	r := token.New("a 1x")
	told(t, "a word", r.Next, w("A", 0, 1))
	for _, a := range []ask{r.Peek, r.Peek, r.Next, r.Next, r.Peek, r.Next} {
		wrong(t, "a number that is not shut", a, 3)
	}
	r = token.New("a")
	told(t, "a word", r.Next, w("A", 0, 1))
	for _, a := range []ask{r.Next, r.Peek, r.Next, r.Next, r.Peek} {
		told(t, "the end", a, api.Token{From: 1, To: 1})
	}
}

// P18.1, P18.2: the end is at the text's length, behind all blanks, also of a text without tokens.
func TestReaderAtTheEnd(t *testing.T) {
	for _, s := range []string{"", " ", " \t\r\n"} {
		r := token.New(s)
		for _, a := range []ask{r.Peek, r.Next, r.Next, r.Peek} {
			told(t, "nothing but blanks", a, api.Token{From: len(s), To: len(s)})
		}
	}
	r := token.New("(  ")
	told(t, "a parenthesis", r.Next, mark(api.OpenToken, 0))
	told(t, "the end", r.Next, api.Token{From: 3, To: 3})
	told(t, "the end again", r.Next, api.Token{From: 3, To: 3})
}

// P18.2: what stands ahead of a fault is told, the word or number that is not shut is not; nothing behind it ever is.
func TestReaderStaysWithItsError(t *testing.T) {
	for s, at := range map[string]int{"( ; )": 2, "(ab1 )": 3, "(1a )": 2, "( 0x1 )": 3, "(- )": 1, "(é )": 1} {
		r := token.New(s)
		told(t, s, r.Next, mark(api.OpenToken, 0))
		for _, a := range []ask{r.Next, r.Next, r.Peek, r.Next, r.Peek, r.Peek} {
			wrong(t, s, a, at)
		}
		r = token.New(s)
		told(t, s, r.Peek, mark(api.OpenToken, 0))
		told(t, s, r.Next, mark(api.OpenToken, 0))
		wrong(t, s, r.Peek, at)
		wrong(t, s, r.Next, at)
	}
}

// P18.2: the same error again, also if what was told is written into.
func TestErrorIsTheSameAgain(t *testing.T) {
	r := token.New("a ?")
	told(t, "a word", r.Next, w("A", 0, 1))
	_, first := r.Peek()
	for i, a := range []ask{r.Peek, r.Next, r.Next, r.Peek} {
		if _, err := a(); err != first {
			t.Errorf("P18.2: asked %d times again: %v, and first %v", i+1, err, first)
		}
	}
	for _, strange := range []error{nil, api.ErrHex, listError{1}} {
		for _, a := range []ask{r.Next, r.Peek} {
			_, err := a()
			fault := err.(*api.Fault)
			fault.At, fault.Err = 77, strange
			wrong(t, "written into", r.Peek, 2)
			wrong(t, "written into", r.Next, 2)
			if fault.At != 77 {
				t.Error("P18.2: what was told once is changed")
			}
		}
	}
}

// listError is an error that can't be compared.
type listError []int

// Error tells nothing.
func (listError) Error() string { return "" }

// P18.1: two readers of one text go each its own way, one with its error, too.
func TestReadersShareNothing(t *testing.T) {
	const s = "a (1 2x"
	r, other := token.New(s), token.New(s)
	for _, want := range []api.Token{w("A", 0, 1), mark(api.OpenToken, 2), n("1", 3, 4)} {
		told(t, "the first", r.Next, want)
	}
	wrong(t, "the first", r.Next, 6)
	told(t, "the second", other.Peek, w("A", 0, 1))
	told(t, "the second", other.Next, w("A", 0, 1))
	wrong(t, "the first", r.Peek, 6)
	told(t, "the second", other.Next, mark(api.OpenToken, 2))
	told(t, "a third", token.New(s).Next, w("A", 0, 1))
}

// P18.3, P18.6: with any Peeks between, a reader gives what All gives, and tells the same before and behind its error.
func TestPeeksBetween(t *testing.T) {
	rule := sample.Rule(186)
	for range 4000 {
		s := joined(&rule, tokens(&rule, rule.Below(9)))
		if rule.Below(2) == 0 {
			s += jumble(&rule, rule.Below(6))
		}
		r := token.New(s)
		at := 0
		for range 20 {
			want, bad := plainNext(s, at)
			asks := append(slices.Repeat([]ask{r.Peek}, rule.Below(3)), r.Next)
			for _, a := range asks {
				if bad >= 0 {
					wrong(t, s, a, bad)
				} else {
					told(t, s, a, want)
				}
			}
			if bad < 0 {
				at = want.To
			}
		}
	}
}

// P18.3: peeked at by many at once, a reader tells them all the same, an error too.
func TestPeekedAtByMany(t *testing.T) {
	whole, broken := token.New("POINT"), token.New("1x")
	var all sync.WaitGroup
	for range 8 {
		all.Go(func() {
			told(t, "peeked at by many", whole.Peek, w("POINT", 0, 5))
			wrong(t, "peeked at by many", broken.Peek, 1)
		})
	}
	all.Wait()
}
