package wkb_test

import (
	"bytes"
	"math"
	"slices"
	"sync"
	"testing"

	"plumb/api"
	"plumb/sample"
	"plumb/tree"
	"plumb/wkb"
)

// someOrders gives a list of orders of the row.
func someOrders(rule *sample.Rule, n int) []bool {
	out := make([]bool, n)
	for i := range out {
		out[i] = rule.Below(2) == 0
	}
	return out
}

// reaching gives the first n orders of a list that goes on.
func reaching(orders []bool, n int) []bool {
	next := goingOn(orders)
	out := make([]bool, n)
	for i := range out {
		out[i] = next()
	}
	return out
}

// P17.3, P17.4, P17.6: what is written is as the plain way writes it, and is read back with limits that just hold it.
func TestThereAndBack(t *testing.T) {
	rule := sample.Rule(176)
	for _, g := range sample.Trees() {
		count, _ := tree.Count(g)
		depth := tree.Depth(g)
		lists := [][]bool{{false}, {true}, nil, {true, false}}
		for _, n := range []int{count - 1, count, count + 1, rule.Below(count + 1)} {
			lists = append(lists, someOrders(&rule, n))
		}
		size, err := wkb.Size(g)
		if err != nil {
			t.Fatalf("P17.3: Size(%v): %v", g, err)
		}
		for _, orders := range lists {
			b, err := wkb.Mixed(g, orders)
			if err != nil || len(b) != size || !bytes.Equal(b, plainBytes(g, goingOn(orders))) {
				t.Fatalf("P17.4: Mixed(%v, %v): %x, %v", g, orders, b, err)
			}
			if back, err := wkb.Parse(b, depth, len(b)); err != nil || !tree.Equal(back, g) {
				t.Fatalf("P17.6: Parse(%x): %v, %v, want %v", b, back, err, g)
			}
			if told, err := wkb.Orders(b); err != nil || !slices.Equal(told, reaching(orders, count)) {
				t.Fatalf("P17.6: Orders(%x): %v, %v, want %v", b, told, err, reaching(orders, count))
			}
		}
		for _, little := range []bool{false, true} {
			b, err := wkb.Print(g, little)
			if err != nil || len(b) != size || !bytes.Equal(b, plainBytes(g, all(little))) {
				t.Fatalf("P17.3: Print(%v, %t): %x, %v", g, little, b, err)
			}
		}
	}
}

// P17.6: a tree of just MaxText bytes is read back; one of a byte more is written, but refused for its size.
func TestThereAndBackAtMaxText(t *testing.T) {
	lines := slices.Repeat([]api.Geom{sample.Line()}, 7278)
	just := sample.Group(7, append(slices.Clone(lines), sample.Line(places(1)...))...)
	over := sample.Group(7, append(slices.Clone(lines[:7274]), sample.Line(places(2)...), sample.Point())...)
	for _, little := range []bool{false, true} {
		b, err := wkb.Print(just, little)
		if err != nil || len(b) != api.MaxText {
			t.Fatalf("P17.3: %d bytes, %v, want 65536", len(b), err)
		}
		if back, err := wkb.Parse(b, 2, len(b)); err != nil || !tree.Equal(back, just) {
			t.Errorf("P17.6: Parse of 65536 bytes: %v", err)
		}
		if told, err := wkb.Orders(b); err != nil || !slices.Equal(told, reaching([]bool{little}, 7280)) {
			t.Errorf("P17.6: Orders of 65536 bytes: %d, %v", len(told), err)
		}
		b, err = wkb.Print(over, little)
		if err != nil || len(b) != api.MaxText+1 {
			t.Fatalf("P17.3: %d bytes, %v, want 65537", len(b), err)
		}
		if _, err := wkb.Parse(b, 2, len(b)); !isFault(err, api.MaxText, api.ErrSize) {
			t.Errorf("P17.1: Parse of 65537 bytes: %v", err)
		}
	}
}

// changed gives bytes with something done to them.
func changed(rule *sample.Rule, b []byte) []byte {
	b = slices.Clone(b)
	for range 1 + rule.Below(2) {
		if len(b) == 0 {
			return b
		}
		at := rule.Below(len(b))
		switch rule.Below(8) {
		case 0:
			b = b[:at]
		case 1:
			b = slices.Insert(b, at, byte(rule.Next()))
		case 2:
			b = slices.Delete(b, at, at+1)
		case 3:
			b[at] ^= 1 << rule.Below(8)
		case 4:
			b[at] = byte(rule.Below(9))
		case 5:
			b[at] = 0xff
		case 6:
			b = append(b, byte(rule.Below(2)))
		case 7: // a pattern that is not finite, at times two
			for range 1 + rule.Below(2) {
				copy(b[at:], [][]byte{{0x7f, 0xf8, 0, 0, 0, 0, 0, 0}, {0, 0, 0, 0, 0, 0, 0xf0, 0xff}, {0x7f, 0xf0, 0, 0, 0, 0, 0, 0}}[rule.Below(3)])
				at = min(at+8, len(b)-1)
			}
		}
	}
	return b
}

// P17.1, P17.5, P17.7: bytes that are nearly those of trees, most of them wrong somewhere, against the plain way.
func TestParseAgainstThePlainWay(t *testing.T) {
	rule := sample.Rule(171)
	seen := map[api.Errno]int{}
	for range 120000 {
		g := rule.Tree(1 + rule.Below(5))
		b := changed(&rule, plainBytes(g, func() bool { return rule.Below(2) == 0 }))
		depth, most := rule.Below(6), api.MaxText
		switch rule.Below(20) {
		case 0:
			most = len(b) - rule.Below(3)
		case 1:
			depth = -rule.Below(3)
		}
		want, _, at, code := plainParse(b, depth, most)
		seen[code]++
		got, err := wkb.Parse(b, depth, most)
		switch {
		case code != api.OK:
			if !isFault(err, at, code) || !isNothing(got) {
				t.Fatalf("P17.1: Parse(%x, %d, %d): %v, %v, want %d at %d", b, depth, most, got, err, code, at)
			}
		case err != nil || !tree.Equal(got, want) || tree.Check(got) != nil:
			t.Fatalf("P17.1: Parse(%x, %d, %d): %v, %v, want %v", b, depth, most, got, err, want)
		}
		_, orders, at, code := plainParse(b, api.MaxDepth, api.MaxText)
		told, err := wkb.Orders(b)
		if code != api.OK && !isFault(err, at, code) || code == api.OK && err != nil || !slices.Equal(told, orders) {
			t.Fatalf("P17.5: Orders(%x): %v, %v, want %v, %d at %d", b, told, err, orders, code, at)
		}
	}
	for _, e := range []api.Errno{api.OK, api.ErrEnd, api.ErrOrder, api.ErrType, api.ErrMember, api.ErrCount, api.ErrTrail, api.ErrCoord, api.ErrRing, api.ErrDepth, api.ErrSize} {
		if seen[e] < 20 {
			t.Errorf("only %d of the error %d", seen[e], e)
		}
	}
}

// other gives the bytes of a tree with any NaN in its empty points.
func other(rule *sample.Rule, g api.Geom, orders func() bool) []byte {
	b := plainBytes(g, orders)
	for _, none := range [][]byte{{0x7f, 0xf8, 0, 0, 0, 0, 0, 0}, {0, 0, 0, 0, 0, 0, 0xf8, 0x7f}} {
		for at := 0; ; {
			i := bytes.Index(b[at:], none)
			if i < 0 {
				break
			}
			at += i
			sign := byte(rule.Below(2) << 7)
			if none[0] == 0 {
				copy(b[at:], []byte{byte(rule.Next()), 7, 6, 5, 4, 3, 0xf0, 0x7f | sign})
			} else {
				copy(b[at:], []byte{0x7f | sign, 0xf0, 3, 4, 5, 6, 7, byte(rule.Next())})
			}
			at += 8
		}
	}
	return b
}

// P17.7: bytes that are taken are written again, but for the patterns of empty points.
func TestOneForm(t *testing.T) {
	rule := sample.Rule(177)
	others := 0
	for _, g := range sample.Trees() {
		count, _ := tree.Count(g)
		orders := someOrders(&rule, count)
		one := plainBytes(g, goingOn(orders))
		b := other(&rule, g, goingOn(orders))
		if !bytes.Equal(b, one) {
			others++
		}
		for _, b := range [][]byte{one, b} {
			got, err := wkb.Parse(b, api.MaxDepth, api.MaxText)
			if err != nil || !tree.Equal(got, g) {
				t.Fatalf("P17.7: Parse(%x): %v, %v, want %v", b, got, err, g)
			}
			told, err := wkb.Orders(b)
			if err != nil {
				t.Fatalf("P17.7: Orders(%x): %v", b, err)
			}
			if back, err := wkb.Mixed(got, told); err != nil || !bytes.Equal(back, one) {
				t.Fatalf("P17.7: Mixed(%v, %v): %x, %v, want %x", got, told, back, err, one)
			}
		}
		for _, little := range []bool{false, true} {
			b := plainBytes(g, all(little))
			got, _ := wkb.Parse(b, api.MaxDepth, api.MaxText)
			if back, err := wkb.Print(got, little); err != nil || !bytes.Equal(back, b) {
				t.Fatalf("P17.7: Print(%v, %t): %x, %v, want %x", got, little, back, err, b)
			}
		}
	}
	if others < 30 {
		t.Errorf("only %d trees with empty points", others)
	}
}

// P17.8: greater limits change nothing; a depth of the tree's own or more is enough, and no less is; no beginning is
// taken, nor are the bytes with one more behind.
func TestLimitsAreLimits(t *testing.T) {
	rule := sample.Rule(178)
	for _, g := range sample.Trees() {
		b := plainBytes(g, func() bool { return rule.Below(2) == 0 })
		depth := tree.Depth(g)
		for _, more := range []int{depth, depth + 1, depth + 7, 256, 257, math.MaxInt} {
			for _, most := range []int{len(b), len(b) + 1, api.MaxText, api.MaxText + 1, math.MaxInt} {
				if got, err := wkb.Parse(b, more, most); err != nil || !tree.Equal(got, g) {
					t.Fatalf("P17.8: Parse(%x, %d, %d): %v, %v, want %v", b, more, most, got, err, g)
				}
			}
		}
		for less := range depth {
			if got, err := wkb.Parse(b, less, len(b)); api.Code(err) != api.ErrDepth || !isNothing(got) {
				t.Fatalf("P17.8: Parse(%x, %d): %v, %v, a tree of depth %d", b, less, got, err, depth)
			}
		}
		for n := range b {
			if got, err := wkb.Parse(b[:n], api.MaxDepth, api.MaxText); err == nil || !isNothing(got) {
				t.Fatalf("P17.8: Parse(%x), %d bytes of %d: %v, %v", b[:n], n, len(b), got, err)
			}
			if got, err := wkb.Parse(b, api.MaxDepth, n); !isFault(err, n, api.ErrSize) || !isNothing(got) {
				t.Fatalf("P17.8: Parse(%x) with maxBytes %d: %v, %v", b, n, got, err)
			}
		}
		for _, last := range []byte{0, 1, 2, 255} {
			if got, err := wkb.Parse(append(slices.Clone(b), last), 256, math.MaxInt); !isFault(err, len(b), api.ErrTrail) || !isNothing(got) {
				t.Fatalf("P17.8: Parse(%x) and %d: %v, %v", b, last, got, err)
			}
		}
	}
}

// P17.9: what is handed in stays as it is with its spare room, and every list of an answer stands apart.
func TestMemory(t *testing.T) {
	rule := sample.Rule(179)
	for _, plain := range sample.Trees() {
		g := sample.RoomyGeom(plain)
		count, _ := tree.Count(plain)
		orders := sample.Roomy(someOrders(&rule, count), true)
		b := sample.Roomy(plainBytes(plain, goingOn(orders)), 0x77)
		whole, bytesBefore, ordersBefore := sample.WholeGeom(g), slices.Clone(b[:cap(b)]), slices.Clone(orders[:cap(orders)])
		ground := sample.NewGround()
		if !ground.Geom(g) {
			t.Fatal("what is handed in shares memory")
		}
		for range 2 {
			got, err := wkb.Parse(b, 256, api.MaxText)
			if err != nil || !ground.Geom(got) {
				t.Fatalf("P17.9: Parse(%x): %v, or it shares memory", b, err)
			}
			told, err := wkb.Orders(b)
			if err != nil || !slices.Equal(told, ordersBefore[:count]) {
				t.Fatalf("P17.9: Orders(%x): %v, %v", b, told, err)
			}
			printed, _ := wkb.Print(g, true)
			mixed, _ := wkb.Mixed(g, orders)
			if !bytes.Equal(mixed, bytesBefore[:len(b)]) {
				t.Fatalf("P17.9: Mixed(%v): %x the second time", plain, mixed)
			}
			wkb.Size(g)
			clear(told[:cap(told)])
			clear(printed[:cap(printed)])
			clear(mixed[:cap(mixed)])
		}
		if !tree.Equal(sample.WholeGeom(g), whole) || !slices.Equal(b[:cap(b)], bytesBefore) || !slices.Equal(orders[:cap(orders)], ordersBefore) {
			t.Errorf("P17.9: what was handed in is changed: %v", plain)
		}
		// What is done to the bytes later is not seen in the tree.
		got, _ := wkb.Parse(b, 256, api.MaxText)
		clear(b)
		if !tree.Equal(got, plain) {
			t.Errorf("P17.9: the tree keeps the bytes: %v", got)
		}
	}
}

// P17.9, P0.1: many may ask at once; an error that is written over changes no later one.
func TestManyAtOnce(t *testing.T) {
	rule := sample.Rule(170)
	trees := sample.Trees()[:120]
	var list [][]byte
	for _, g := range trees {
		list = append(list, plainBytes(g, func() bool { return rule.Below(2) == 0 }))
	}
	var wait sync.WaitGroup
	for from := range 4 {
		wait.Go(func() {
			for i := from; i < len(list); i++ {
				g, err := wkb.Parse(list[i], 256, api.MaxText)
				o, bad := wkb.Orders(list[i])
				b, worse := wkb.Mixed(g, o)
				if err != nil || bad != nil || worse != nil || !bytes.Equal(b, plainBytes(trees[i], goingOn(o))) {
					t.Errorf("P17.9: %x: %x, %v, %v, %v", list[i], b, err, bad, worse)
				}
				cut := list[i][:len(list[i])-1]
				_, _, at, code := plainParse(cut, 256, api.MaxText)
				_, err = wkb.Parse(cut, 256, api.MaxText)
				if !isFault(err, at, code) {
					t.Errorf("P17.9: %x: %v, want %d at %d", cut, err, code, at)
					return
				}
				*err.(*api.Fault) = api.Fault{At: -7}
			}
		})
	}
	wait.Wait()
}
