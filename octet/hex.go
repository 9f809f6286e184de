package octet

import "plumb/api"

const digits = "0123456789abcdef"

// Hex writes bytes in hex digits, small letters.
func Hex(b []byte) string {
	out := make([]byte, 0, 2*len(b))
	for _, c := range b {
		out = append(out, digits[c>>4], digits[c&15])
	}
	return string(out)
}

// Unhex reads hex digits of either case.
func Unhex(s string) ([]byte, error) {
	// Room for half a byte at the end: a sign that is no digit is told ahead of an odd length, wherever it stands.
	out := make([]byte, (len(s)+1)/2)
	for i := range len(s) {
		half, ok := value(s[i])
		if !ok {
			return nil, api.Wrap(i, api.ErrHex)
		}
		out[i/2] = out[i/2]<<4 | half
	}
	if len(s)%2 != 0 {
		return nil, api.Wrap(len(s), api.ErrHex)
	}
	return out, nil
}

// value gives what a hex digit is worth; false: it is none.
func value(c byte) (byte, bool) {
	switch {
	case c >= '0' && c <= '9':
		return c - '0', true
	case c >= 'a' && c <= 'f':
		return c - 'a' + 10, true
	case c >= 'A' && c <= 'F':
		return c - 'A' + 10, true
	}
	return 0, false
}
