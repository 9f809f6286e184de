package token_test

import (
	"slices"
	"strings"
	"sync"
	"testing"

	"plumb/api"
	"plumb/sample"
	"plumb/token"
)

// must gives All of a text that is taken.
func must(t *testing.T, s string) []api.Token {
	t.Helper()
	l, err := token.All(s)
	if err != nil {
		t.Fatalf("P18.6: All(%.60q): %v", s, err)
	}
	return l
}

// P18.6: tokens rise, and between two stand blanks alone.
func TestTokensRise(t *testing.T) {
	rule := sample.Rule(188)
	for range 3000 {
		s := joined(&rule, tokens(&rule, rule.Below(30))) + some(&rule, "", " ", "\r\n")
		at := 0
		for _, x := range append(must(t, s), api.Token{From: len(s), To: len(s) + 1}) {
			if x.From < at || x.To <= x.From || strings.Trim(s[at:x.From], " \t\r\n") != "" {
				t.Fatalf("P18.6: %v behind %d in %q", x, at, s)
			}
			at = x.To
		}
	}
}

// P18.6: All of Tight is the same but for the places, and Tight of that the same text.
func TestTightIsReadBack(t *testing.T) {
	rule := sample.Rule(189)
	for range 3000 {
		l := must(t, joined(&rule, tokens(&rule, rule.Below(30))))
		s := token.Tight(l)
		again := must(t, s)
		if !slices.Equal(unplaced(again), unplaced(l)) || token.Tight(again) != s {
			t.Fatalf("P18.6: %v, tight %q, is read as %v", l, s, again)
		}
	}
}

// P18.6: a numeral whose text is just MaxText bytes is read back; one whose text is longer than that is not.
func TestTightAtMaxText(t *testing.T) {
	just := must(t, "a 1."+strings.Repeat("1", 65528)+" b")
	s := token.Tight(just)
	if len(s) != api.MaxText+4 || !slices.Equal(unplaced(must(t, s)), unplaced(just)) {
		t.Errorf("P18.6: %d bytes are not read back", len(s))
	}
	long := must(t, "."+strings.Repeat("1", 65535))
	if s := token.Tight(long); s != strings.Repeat("1", 65535)+"e-65535" {
		t.Errorf("P18.5: %d bytes", len(s))
	}
	refuses(t, token.Tight(long), 65535)
}

// P18.6: blanks put in, and the case of letters in words, change no token but its places.
func TestBlanksAndCase(t *testing.T) {
	rule := sample.Rule(190)
	for range 3000 {
		texts := tokens(&rule, rule.Below(20))
		want := unplaced(must(t, joined(&rule, texts)))
		for i, s := range texts {
			if want[i].Kind == api.WordToken {
				texts[i] = some(&rule, strings.ToLower(s), strings.ToUpper(s), strings.ToLower(s[:1])+strings.ToUpper(s[1:]))
			}
		}
		for _, blanks := range []string{" ", "\t", "\n", "\r", " \t\n\r "} {
			for _, s := range []string{joined(&rule, texts), blanks + strings.Join(texts, blanks), strings.Join(texts, blanks) + blanks} {
				if got := unplaced(must(t, s)); !slices.Equal(got, want) {
					t.Fatalf("P18.6: All(%q) = %v, want %v", s, got, want)
				}
			}
		}
	}
}

// P18.2: each letter's capital is the letter's, and each is a word.
func TestLetters(t *testing.T) {
	const capitals = "ABCDEFGHIJKLMNOPQRSTUVWXYZ"
	for i := range capitals {
		for _, c := range []string{capitals[i : i+1], strings.ToLower(capitals[i : i+1])} {
			gives(t, c, w(capitals[i:i+1], 0, 1))
			gives(t, c+c+" "+c, w(capitals[i:i+1]+capitals[i:i+1], 0, 2), w(capitals[i:i+1], 3, 4))
		}
	}
}

// P18.7: a list that was answered may be written into and appended to, and is seen in no later answer.
func TestListsAreNew(t *testing.T) {
	const s = "POINT (1 2, a b c"
	first, second := must(t, s), must(t, s)
	r := token.New(s)
	want := slices.Clone(second)
	whole := first[:cap(first)]
	for i := range whole {
		whole[i] = api.Token{Kind: 77, Word: "spoilt"}
	}
	_ = append(first, api.Token{Kind: 78})
	if !slices.Equal(second, want) || !slices.Equal(must(t, s), want) {
		t.Errorf("P18.7: %v, and again %v, want %v", second, must(t, s), want)
	}
	for _, x := range want {
		told(t, "behind what was spoilt", r.Next, x)
	}
}

// P18.7: Tight takes the list alone, not its spare room, and leaves both as they are.
func TestTightLeavesItsList(t *testing.T) {
	room := []api.Token{w("a", 3, 1), n("1", 0, 0), w("spare", 0, 0), mark(4, 0)}
	before := slices.Clone(room)
	wrote(t, "a 1", room[:2]...)
	if !slices.Equal(room, before) {
		t.Errorf("P18.7: Tight changed %v to %v", before, room)
	}
}

// P18.7: many at once, and one behind the other, answer the same.
func TestDetermined(t *testing.T) {
	rule := sample.Rule(187)
	var texts []string
	for range 300 {
		texts = append(texts, jumble(&rule, rule.Below(9)), joined(&rule, tokens(&rule, rule.Below(9))))
	}
	var all sync.WaitGroup
	for range 8 {
		all.Go(func() {
			for _, s := range texts {
				holds(t, s)
				holds(t, s)
			}
		})
	}
	all.Wait()
}
