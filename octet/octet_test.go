package octet_test

import (
	"encoding/binary"
	"slices"
	"testing"

	"plumb/octet"
	"plumb/sample"
)

// both is what the library has for an order: to read in it, and to lay.
type both interface {
	binary.ByteOrder
	binary.AppendByteOrder
}

// order is the library's of that name.
func order(little bool) both {
	if little {
		return binary.LittleEndian
	}
	return binary.BigEndian
}

// numbers are such as show a byte that is lost, laid twice or at a wrong place.
func numbers() []uint64 {
	out := []uint64{0, 1, 127, 128, 255, 256, 258, 0x0102030405060708, 0xf1e2d3c4b5a69788, 1<<32 - 1, 1 << 32, 1<<63 - 1, 1 << 63, 1<<64 - 1}
	for i := range 64 {
		out = append(out, 1<<i, 0xff<<i)
	}
	rule := sample.Rule(161)
	for range 200 {
		out = append(out, rule.Next())
	}
	return out
}

// some gives so many bytes of the row.
func some(rule *sample.Rule, n int) []byte {
	out := make([]byte, n)
	for i := range out {
		out[i] = byte(rule.Next() >> 24)
	}
	return out
}

// P16.1: the chapter's example 1, and more of its kind.
func TestPutExamples(t *testing.T) {
	for _, c := range []struct {
		what string
		got  []byte
		want string
	}{
		{"Put32({9}, 258, true)", octet.Put32([]byte{9}, 258, true), "\x09\x02\x01\x00\x00"},
		{"Put32({9}, 258, false)", octet.Put32([]byte{9}, 258, false), "\x09\x00\x00\x01\x02"},
		{"Put64(nil, 1, true)", octet.Put64(nil, 1, true), "\x01\x00\x00\x00\x00\x00\x00\x00"},
		{"Put64(nil, all ones, false)", octet.Put64(nil, 1<<64-1, false), "\xff\xff\xff\xff\xff\xff\xff\xff"},
		{"Put32(nil, 0, true)", octet.Put32(nil, 0, true), "\x00\x00\x00\x00"},
		{"Put32(none, all ones, false)", octet.Put32([]byte{}, 1<<32-1, false), "\xff\xff\xff\xff"},
		{"Put32({0, 0}, 0x81020304, true)", octet.Put32([]byte{0, 0}, 0x81020304, true), "\x00\x00\x04\x03\x02\x81"},
		{"Put32({0, 0}, 0x81020304, false)", octet.Put32([]byte{0, 0}, 0x81020304, false), "\x00\x00\x81\x02\x03\x04"},
		{"Put64(none, 0x8102030405060708, true)", octet.Put64([]byte{}, 0x8102030405060708, true), "\x08\x07\x06\x05\x04\x03\x02\x81"},
		{"Put64({7}, 0x8102030405060708, false)", octet.Put64([]byte{7}, 0x8102030405060708, false), "\x07\x81\x02\x03\x04\x05\x06\x07\x08"},
	} {
		if string(c.got) != c.want {
			t.Errorf("P16.1: %s = %x, want %x", c.what, c.got, c.want)
		}
	}
}

// P16.1: what the library lays, behind lists of all lengths that may meet a step of memory.
func TestPutIsTheLibrarys(t *testing.T) {
	rule := sample.Rule(162)
	for n := range 70 {
		b := some(&rule, n)
		for _, v := range numbers() {
			for _, little := range []bool{false, true} {
				if got, want := octet.Put32(b, uint32(v), little), order(little).AppendUint32(slices.Clone(b), uint32(v)); !slices.Equal(got, want) {
					t.Errorf("P16.1: Put32(%x, %x, %t) = %x, want %x", b, uint32(v), little, got, want)
				}
				if got, want := octet.Put64(b, v, little), order(little).AppendUint64(slices.Clone(b), v); !slices.Equal(got, want) {
					t.Errorf("P16.1: Put64(%x, %x, %t) = %x, want %x", b, v, little, got, want)
				}
			}
		}
	}
}

// puts gives what all ways to lay a number behind a list answer.
func puts(b []byte) [][]byte {
	var out [][]byte
	for _, little := range []bool{false, true} {
		out = append(out, octet.Put32(b, 0xa1b2c3d4, little), octet.Put64(b, 0xa1b2c3d4e5f60718, little))
	}
	return out
}

// P16.1, P16.8: what is handed in stays, its spare room too; each answer is memory of its own.
func TestPutMemory(t *testing.T) {
	rule := sample.Rule(163)
	for n := range 40 {
		for room := range 20 {
			whole := some(&rule, n+room)
			before := slices.Clone(whole)
			got := puts(whole[:n])
			want := puts(slices.Clone(before[:n]))
			for i := range got {
				if !slices.Equal(got[i], want[i]) {
					t.Errorf("P16.1: answer %d is %x with spare room, %x without", i, got[i], want[i])
				}
				spoil(got[i])
			}
			if !slices.Equal(whole, before) {
				t.Errorf("P16.1, P16.8: of %d bytes and %d spare ones some were changed", n, room)
			}
			for i, again := range puts(whole[:n]) {
				if !slices.Equal(again, want[i]) {
					t.Errorf("P16.8: answer %d is %x the second time, %x the first", i, again, want[i])
				}
			}
		}
	}
}

// P16.8: what is laid behind one answer twice is not seen in the other.
func TestPutTwiceBehindOne(t *testing.T) {
	for _, little := range []bool{false, true} {
		start := octet.Put32([]byte{1, 2, 3}, 4, little)
		a, b := octet.Put64(start, 1, little), octet.Put64(start, 2, little)
		c := append(start, 77)
		if octet.NewReader(a[7:]).Word64(little) != 1 || octet.NewReader(b[7:]).Word64(little) != 2 || c[7] != 77 || len(start) != 7 {
			t.Errorf("P16.8: laid behind one list: %x, %x, %x", a, b, c)
		}
	}
}

// spoil writes over bytes and their spare room.
func spoil(b []byte) {
	whole := b[:cap(b)]
	for i := range whole {
		whole[i] ^= 0x5a
	}
}
