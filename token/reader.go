package token

import "plumb/api"

// Reader gives the tokens of a text, one after the other.
type Reader struct {
	text  string
	ahead api.Token  // what Next gives, unless something is wrong there
	wrong int        // the place of what is; none: nothing is
	fault *api.Fault // the error of that, the same each time
}

// New gives one.
func New(s string) *Reader {
	r := &Reader{text: s}
	r.step()
	return r
}

// Next gives the next token (at the end: EndToken, again and again); behind an error the same error again.
func (r *Reader) Next() (api.Token, error) {
	t, err := r.Peek()
	if err == nil {
		r.step()
	}
	return t, err
}

// Peek gives what Next would give, and stays.
func (r *Reader) Peek() (api.Token, error) {
	if r.wrong == none {
		return r.ahead, nil
	}
	// Whoever was told it before may have written into it: that must not be told on.
	if fresh := faultAt(r.wrong); *r.fault != *fresh {
		r.fault = fresh
	}
	return api.Token{}, r.fault
}

// step goes behind the token that is ahead.
func (r *Reader) step() {
	r.ahead, r.wrong = cut(r.text, r.ahead.To)
	if r.wrong != none {
		r.fault = faultAt(r.wrong)
	}
}

// faultAt is the error of a byte that begins no token.
func faultAt(place int) *api.Fault {
	return &api.Fault{At: place, Err: api.ErrToken}
}
