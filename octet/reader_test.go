package octet_test

import (
	"errors"
	"math/bits"
	"slices"
	"sync"
	"testing"

	"plumb/api"
	"plumb/octet"
	"plumb/sample"
)

// fault tells whether an error is a Fault with that number at that place.
func fault(err error, e api.Errno, at int) bool {
	f, ok := err.(*api.Fault)
	return ok && f != nil && f.At == at && f.Err == e && errors.Is(err, e) && api.Code(err) == e && api.Place(err) == at
}

// stands holds a reader to where it stands, and to its error: at is the error's place, -1 that there is none.
func stands(t *testing.T, what string, r *octet.Reader, read int, left int, at int) {
	t.Helper()
	for range 2 {
		if r.At() != read || r.Left() != left {
			t.Errorf("P16.4: %s: At %d, Left %d, want %d, %d", what, r.At(), r.Left(), read, left)
		}
		if err := r.Err(); at < 0 && err != nil || at >= 0 && !fault(err, api.ErrEnd, at) {
			t.Errorf("P16.4: %s: Err %v, want place %d", what, err, at)
		}
	}
}

// P16.2, P16.3, P16.4: the chapter's example 2.
func TestReaderToTheEnd(t *testing.T) {
	r := octet.NewReader([]byte{1, 2, 3, 4, 5})
	stands(t, "new", r, 0, 5, -1)
	if v := r.Byte(); v != 1 {
		t.Errorf("P16.3: Byte %d", v)
	}
	stands(t, "behind a byte", r, 1, 4, -1)
	if v := r.Word32(true); v != 84148994 {
		t.Errorf("P16.3: Word32 %d", v)
	}
	stands(t, "at the end", r, 5, 0, -1)
	if v := r.Byte(); v != 0 {
		t.Errorf("P16.3: Byte %d at the end", v)
	}
	stands(t, "behind an error", r, 5, 0, 5)
}

// P16.3, P16.4: the chapter's example 3; nothing is read once there is an error, though there are bytes.
func TestReaderStaysWithItsError(t *testing.T) {
	r := octet.NewReader([]byte{1, 2, 3})
	if v := r.Word32(false); v != 0 {
		t.Errorf("P16.3: Word32 %d of three bytes", v)
	}
	stands(t, "too few bytes", r, 0, 3, 0)
	if v := r.Byte(); v != 0 {
		t.Errorf("P16.3: Byte %d behind an error", v)
	}
	stands(t, "a byte behind an error", r, 0, 3, 0)
	if v, w := r.Word32(true), r.Word64(false); v != 0 || w != 0 {
		t.Errorf("P16.3: %d, %d behind an error", v, w)
	}
	stands(t, "words behind an error", r, 0, 3, 0)
}

// P16.2, P16.3: the chapter's example 4.
func TestReaderOfNothing(t *testing.T) {
	for _, b := range [][]byte{nil, {}, make([]byte, 0, 9), []byte{1, 2, 3, 4, 5, 6, 7, 8, 9}[:0]} {
		for i := range reads() {
			r := octet.NewReader(b)
			stands(t, "of no bytes", r, 0, 0, -1)
			if v := reads()[i].do(r); v != 0 {
				t.Errorf("P16.3: read %d of no bytes: %d", i, v)
			}
			stands(t, "of no bytes, read", r, 0, 0, 0)
		}
	}
}

// read is one way to read a number.
type read struct {
	size   int
	little bool
	do     func(r *octet.Reader) uint64
}

// reads are all ways.
func reads() []read {
	out := []read{{1, false, func(r *octet.Reader) uint64 { return uint64(r.Byte()) }}}
	for _, little := range []bool{false, true} {
		out = append(out,
			read{4, little, func(r *octet.Reader) uint64 { return uint64(r.Word32(little)) }},
			read{8, little, func(r *octet.Reader) uint64 { return r.Word64(little) }})
	}
	return out
}

// number is the library's, of the first bytes of b.
func (k read) number(b []byte) uint64 {
	switch k.size {
	case 1:
		return uint64(b[0])
	case 4:
		return uint64(order(k.little).Uint32(b))
	}
	return order(k.little).Uint64(b)
}

// P16.3: at every place of bytes of every length: all that fits is read, of all else one byte too few is an error there.
func TestReadsAtEveryPlace(t *testing.T) {
	rule := sample.Rule(164)
	for n := range 20 {
		b := some(&rule, n)
		for ahead := range n + 1 {
			for i, k := range reads() {
				r := octet.NewReader(b)
				for range ahead {
					r.Byte()
				}
				v := k.do(r)
				if n-ahead < k.size {
					if v != 0 {
						t.Errorf("P16.3: read %d at %d of %x: %x", i, ahead, b, v)
					}
					stands(t, "too few", r, ahead, n-ahead, ahead)
					continue
				}
				if want := k.number(b[ahead:]); v != want {
					t.Errorf("P16.3: read %d at %d of %x: %x, want %x", i, ahead, b, v, want)
				}
				stands(t, "enough", r, ahead+k.size, n-ahead-k.size, -1)
			}
		}
	}
}

// P16.3, P16.4, P16.7: rows of reads are what a plain walk over the bytes tells; At and Left are always all bytes.
func TestRowsOfReads(t *testing.T) {
	rule := sample.Rule(165)
	for range 2000 {
		b := some(&rule, rule.Below(60))
		r := octet.NewReader(b)
		at, bad := 0, -1
		for range 20 {
			k := reads()[rule.Below(len(reads()))]
			want := uint64(0)
			switch {
			case bad >= 0:
			case len(b)-at < k.size:
				bad = at
			default:
				want = k.number(b[at:])
				at += k.size
			}
			if v := k.do(r); v != want {
				t.Fatalf("P16.3: %d bytes at %d of %x: %x, want %x", k.size, at, b, v, want)
			}
			stands(t, "in a row", r, at, len(b)-at, bad)
			if r.At()+r.Left() != len(b) {
				t.Errorf("P16.7: At %d and Left %d of %d bytes", r.At(), r.Left(), len(b))
			}
		}
	}
}

// P16.7: what was laid is read in its order, and turned about in the other one.
func TestLaidIsRead(t *testing.T) {
	for _, v := range numbers() {
		for _, little := range []bool{false, true} {
			b := octet.Put32(octet.Put64([]byte{5}, v, little), uint32(v), little)
			r, s := octet.NewReader(b), octet.NewReader(b)
			if c, w, x := r.Byte(), r.Word64(little), r.Word32(little); c != 5 || w != v || x != uint32(v) {
				t.Errorf("P16.7: %x is read as %d, %x, %x", v, c, w, x)
			}
			if c, w, x := s.Byte(), s.Word64(!little), s.Word32(!little); c != 5 || w != bits.ReverseBytes64(v) || x != bits.ReverseBytes32(uint32(v)) {
				t.Errorf("P16.7: %x is read in the other order as %d, %x, %x", v, c, w, x)
			}
			stands(t, "all read", r, 13, 0, -1)
		}
	}
}

// P16.2, P16.8: a reader keeps nothing of what was handed in, and leaves it as it is.
func TestReaderCopies(t *testing.T) {
	whole := []byte{1, 2, 3, 4, 5, 6, 7, 8, 9, 10, 11, 12, 13, 14, 15, 16}
	b := whole[:13]
	r := octet.NewReader(b)
	r.Byte()
	spoil(b)
	spoiled := slices.Clone(whole)
	if v, w := r.Word32(false), r.Word64(true); v != 0x02030405 || w != 0x0d0c0b0a09080706 {
		t.Errorf("P16.2: what was written into the list is read: %x, %x", v, w)
	}
	r.Byte()
	stands(t, "the spare room is no byte of it", r, 13, 0, 13)
	if !slices.Equal(whole, spoiled) {
		t.Errorf("P16.2: the list handed in is changed: %x", whole)
	}
}

// P16.8: two readers of one list go each its own way.
func TestReadersShareNothing(t *testing.T) {
	b := []byte{1, 2, 3, 4, 5, 6, 7, 8}
	r, s := octet.NewReader(b), octet.NewReader(b)
	r.Byte()
	r.Word64(false)
	stands(t, "the first", r, 1, 7, 1)
	stands(t, "the second", s, 0, 8, -1)
	if v := s.Word64(false); v != 0x0102030405060708 {
		t.Errorf("P16.8: the second reads %x", v)
	}
	s.Byte()
	stands(t, "the first", r, 1, 7, 1)
	stands(t, "the second", s, 8, 0, 8)
}

// P16.4: the same error again, also if what was told is written into.
func TestErrIsTheSameAgain(t *testing.T) {
	r := octet.NewReader([]byte{1, 2, 3, 4, 5})
	r.Byte()
	r.Word64(true)
	first := r.Err()
	r.Word64(true)
	r.Word32(true)
	r.Byte()
	if again := r.Err(); again != first {
		t.Errorf("P16.4: %v, and then %v", first, again)
	}
	for _, strange := range []error{nil, api.ErrHex, listError{1}} {
		told := r.Err().(*api.Fault)
		told.At, told.Err = 77, strange
		stands(t, "written into", r, 1, 4, 1)
		if told.At != 77 {
			t.Error("P16.4: what was told once is changed")
		}
	}
}

// listError is an error that can't be compared.
type listError []int

// Error tells nothing.
func (listError) Error() string { return "" }

// P16.4: asked by many at once, a reader tells them all the same.
func TestReaderAskedByMany(t *testing.T) {
	r := octet.NewReader([]byte{1, 2, 3, 4, 5})
	r.Byte()
	r.Word64(true)
	var all sync.WaitGroup
	for range 8 {
		all.Go(func() { stands(t, "asked by many", r, 1, 4, 1) })
	}
	all.Wait()
}

// P16.2: no limit is set to how many bytes there are.
func TestReaderOfMany(t *testing.T) {
	const n = 3*api.MaxText + 1
	r := octet.NewReader(octet.Put64(make([]byte, n), 42, true))
	for range n {
		r.Byte()
	}
	stands(t, "of many", r, n, 8, -1)
	if v := r.Word64(true); v != 42 {
		t.Errorf("P16.3: the last of many is %d", v)
	}
}
