package token

import (
	"strings"

	"plumb/api"
	"plumb/lex"
)

// Kinds of bytes: the first one of a token tells what it is.
const (
	other = iota // it begins a numeral or nothing, which is lex's business
	blank
	letter
	opening
	closing
	comma
)

// none is the place of what is wrong, where nothing is.
const none = -1

// kindOf gives the kind of a byte.
func kindOf(c byte) int {
	switch {
	case c == ' ' || c == '\t' || c == '\n' || c == '\r':
		return blank
	case c >= 'A' && c <= 'Z' || c >= 'a' && c <= 'z':
		return letter
	case c == '(':
		return opening
	case c == ')':
		return closing
	case c == ',':
		return comma
	}
	return other
}

// cut gives the token behind the blanks at a place, or the place of what is wrong there.
func cut(s string, at int) (api.Token, int) {
	from := behind(s, at, blank)
	if from == len(s) {
		return endOf(s), none
	}
	t, ok := tokenAt(s, from)
	if !ok {
		return api.Token{}, from
	}
	if needsGap(t) && !endsToken(s, t.To) {
		return api.Token{}, t.To
	}
	return t, none
}

// endOf gives the end of a text as a token.
func endOf(s string) api.Token {
	return api.Token{Kind: api.EndToken, From: len(s), To: len(s)}
}

// behind gives the place behind all bytes of a kind that stand at a place.
func behind(s string, at int, kind int) int {
	for at < len(s) && kindOf(s[at]) == kind {
		at++
	}
	return at
}

// tokenAt gives the token whose first byte stands at a place; false: none begins there.
func tokenAt(s string, from int) (api.Token, bool) {
	switch kindOf(s[from]) {
	case letter:
		return wordAt(s, from), true
	case opening:
		return markAt(api.OpenToken, from), true
	case closing:
		return markAt(api.ShutToken, from), true
	case comma:
		return markAt(api.Comma, from), true
	}
	n, to, err := lex.Scan(s, from)
	return api.Token{Kind: api.Number, From: from, To: to, Num: n}, err == nil
}

// wordAt gives the word that begins at a place.
func wordAt(s string, from int) api.Token {
	to := behind(s, from, letter)
	// ToUpper gives a word of capitals as it is, a piece of the text: a token must not keep the whole text for that.
	return api.Token{Kind: api.WordToken, From: from, To: to, Word: strings.Clone(strings.ToUpper(s[from:to]))}
}

// markAt gives a token of one byte.
func markAt(kind int, from int) api.Token {
	return api.Token{Kind: kind, From: from, To: from + 1}
}

// endsToken tells whether what stands at a place, a byte or nothing, may stand behind a word or a number.
func endsToken(s string, at int) bool {
	if at == len(s) {
		return true
	}
	kind := kindOf(s[at])
	return kind != other && kind != letter
}
