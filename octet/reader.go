package octet

import (
	"slices"

	"plumb/api"
)

// Reader reads bytes from the beginning.
type Reader struct {
	bytes []byte
	at    int
	fault *api.Fault // nil: none yet; once there is one, at stays
}

// NewReader gives one.
func NewReader(b []byte) *Reader {
	return &Reader{bytes: slices.Clone(b)}
}

// Byte reads one byte.
func (r *Reader) Byte() byte {
	return byte(number(r.take(1), false))
}

// Word32 reads a number of 32 bits.
func (r *Reader) Word32(little bool) uint32 {
	return uint32(number(r.take(4), little))
}

// Word64 reads a number of 64 bits.
func (r *Reader) Word64(little bool) uint64 {
	return number(r.take(8), little)
}

// take gives the next n bytes and goes behind them; none, if there is an error or now comes to be one.
func (r *Reader) take(n int) []byte {
	if r.fault == nil && r.Left() < n {
		r.fault = r.ended()
	}
	if r.fault != nil {
		return nil
	}
	from := r.at
	r.at += n
	return r.bytes[from:r.at]
}

// ended is the error of bytes that end where the reader stands.
func (r *Reader) ended() *api.Fault {
	return &api.Fault{At: r.at, Err: api.ErrEnd}
}

// number is the number that bytes are in that order; of no byte 0.
func number(b []byte, little bool) uint64 {
	var v uint64
	for i := range b {
		if little {
			i = len(b) - 1 - i
		}
		v = v<<8 | uint64(b[i])
	}
	return v
}

// At tells how many bytes were read.
func (r *Reader) At() int {
	return r.at
}

// Left tells how many are left.
func (r *Reader) Left() int {
	return len(r.bytes) - r.at
}

// Err tells the first error.
func (r *Reader) Err() error {
	if r.fault == nil {
		return nil
	}
	// Whoever was told it before may have written into it: that must not be told on.
	if fresh := r.ended(); *r.fault != *fresh {
		r.fault = fresh
	}
	return r.fault
}
