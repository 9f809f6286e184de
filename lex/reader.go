package lex

import (
	"strings"

	"plumb/api"
)

// pieces are those of a numeral, as they are written.
type pieces struct {
	kind   int // 0: there is no numeral
	neg    bool
	ahead  string // the digits ahead of the point, or of the slash
	behind string // the digits behind the point
	expo   string // the exponent, with its sign
	den    string // the digits behind the slash
	end    int    // the place behind all of it
}

// reader goes through a text from its beginning, as far as a numeral can go on.
type reader struct {
	text  string
	at    int
	state func() // what is read next, if anything
	read  pieces // all that was read
	whole pieces // what was read up to the last place where a numeral may end
}

// longest gives the pieces of the longest numeral that a text begins with.
func longest(text string) pieces {
	r := &reader{text: text}
	r.state = r.aheadOfSign
	for r.state != nil {
		// The state that names no next one is the last.
		now := r.state
		r.state = nil
		now()
	}
	return r.whole
}

// aheadOfSign is where the numeral begins.
func (r *reader) aheadOfSign() {
	r.read.neg = r.one("-")
	if !r.read.neg {
		r.one("+")
	}
	r.state = r.behindSign
}

// behindSign is where digits or a point must stand.
func (r *reader) behindSign() {
	r.read.kind = api.Decimal
	r.read.ahead = r.run(digits)
	switch {
	case r.hasDigits():
		r.keep()
		r.state = r.behindDigits
	case r.one("."):
		r.state = r.behindPoint
	}
}

// behindDigits is where the next byte tells which kind of numeral it may be.
func (r *reader) behindDigits() {
	switch {
	case r.one("."):
		r.state = r.behindPoint
	case r.one("eE"):
		r.state = r.behindE
	case r.one("/"):
		r.state = r.behindSlash
	case r.read.ahead == "0" && r.one("xX"):
		r.state = r.behindX
	}
}

// behindPoint is behind a decimal numeral's point.
func (r *reader) behindPoint() {
	r.read.behind = r.run(digits)
	if !r.hasDigits() {
		return
	}
	r.keep()
	if r.one("eE") {
		r.state = r.behindE
	}
}

// behindE is where an exponent begins, behind an e or a p.
func (r *reader) behindE() {
	from := r.at
	r.one("+-")
	if r.run(digits) != "" {
		r.read.expo = r.text[from:r.at]
		r.keep()
	}
}

// behindSlash is where a denominator begins.
func (r *reader) behindSlash() {
	r.read.kind = api.Ratio
	r.read.den = r.run(digits)
	if r.read.den != "" {
		r.keep()
	}
}

// behindX is where hex digits or a point must stand. None of what is read from here on is a numeral yet: a hexadecimal
// one has an exponent.
func (r *reader) behindX() {
	r.read.kind = api.Hexa
	r.read.ahead = r.run(hexDigits)
	switch {
	case r.one("."):
		r.state = r.behindHexPoint
	case r.hasDigits() && r.one("pP"):
		r.state = r.behindE
	}
}

// behindHexPoint is behind a hexadecimal numeral's point.
func (r *reader) behindHexPoint() {
	r.read.behind = r.run(hexDigits)
	if r.hasDigits() && r.one("pP") {
		r.state = r.behindE
	}
}

// hasDigits tells whether digits were read ahead of the point or behind it.
func (r *reader) hasDigits() bool {
	return r.read.ahead != "" || r.read.behind != ""
}

// keep notes that what was read is a numeral.
func (r *reader) keep() {
	r.read.end = r.at
	r.whole = r.read
}

// one reads a byte, if it is one of the set, and tells whether it was.
func (r *reader) one(set string) bool {
	if r.at == len(r.text) || strings.IndexByte(set, r.text[r.at]) < 0 {
		return false
	}
	r.at++
	return true
}

// run reads all bytes of the set that stand here.
func (r *reader) run(set string) string {
	from := r.at
	r.at = len(r.text) - len(strings.TrimLeft(r.text[from:], set))
	return r.text[from:r.at]
}

// says gives what the pieces of a numeral say.
func says(p pieces) api.Numeral {
	n := api.Numeral{Kind: p.kind, Neg: p.neg, Num: strip(p.ahead + p.behind), Den: strip(p.den)}
	switch p.kind {
	case api.Decimal:
		n.Exp = held(exponent(p.expo) - len(p.behind))
	case api.Hexa:
		n.Exp = held(exponent(p.expo) - 4*len(p.behind))
	}
	return n
}

// strip gives digits as a Numeral keeps them, in memory of their own.
func strip(s string) string {
	return strings.Clone(strings.ToLower(strings.TrimLeft(s, "0")))
}

// exponent gives the number of an exponent (none: 0). One that is very far from 0 is told nearer, but so far that no
// digits behind a point bring it within the bounds.
func exponent(s string) int {
	const far = 2 * api.MaxExp
	size := 0
	for _, d := range strings.TrimLeft(s, "+-") {
		if size < far {
			size = 10*size + int(d-'0')
		}
	}
	if strings.HasPrefix(s, "-") {
		return -size
	}
	return size
}
