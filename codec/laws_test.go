package codec_test

import (
	"bytes"
	"slices"
	"strings"
	"sync"
	"testing"

	"plumb/api"
	"plumb/codec"
	"plumb/octet"
	"plumb/sample"
	"plumb/tree"
	"plumb/wkb"
)

// P21.7: every text and all bytes of a tree denote it, with limits that just hold them.
func TestThereAndBack(t *testing.T) {
	for _, g := range sample.Trees() {
		depth := tree.Depth(g)
		for _, mode := range modes {
			s, err := codec.PrintWKT(g, mode)
			if err != nil {
				t.Fatalf("P21.7: PrintWKT(%v, %d): %v", g, mode, err)
			}
			for _, most := range []int{len(s), api.MaxText} {
				if back, err := codec.ParseWKT(s, depth, most); err != nil || !tree.Equal(back, g) {
					t.Fatalf("P21.7: ParseWKT(%q, %d, %d): %v, %v, want %v", s, depth, most, back, err, g)
				}
			}
		}
		for _, little := range []bool{false, true} {
			b, err := codec.PrintWKB(g, little)
			if err != nil {
				t.Fatalf("P21.7: PrintWKB(%v, %t): %v", g, little, err)
			}
			for _, most := range []int{len(b), api.MaxText} {
				if back, err := codec.ParseWKB(b, depth, most); err != nil || !tree.Equal(back, g) {
					t.Fatalf("P21.7: ParseWKB(%x, %d, %d): %v, %v, want %v", b, depth, most, back, err, g)
				}
			}
		}
		for _, format := range formats {
			s, err := codec.Write(format, g)
			if err != nil {
				t.Fatalf("P21.3: Write(%d, %v): %v", format, g, err)
			}
			if back, err := codec.Read(format, s, depth); err != nil || !tree.Equal(back, g) {
				t.Fatalf("P21.7: Read(%d, %q, %d): %v, %v, want %v", format, s, depth, back, err, g)
			}
			if back, err := codec.Read(format, s, depth-1); api.Code(err) != api.ErrDepth || !isNothing(back) {
				t.Fatalf("P21.2: Read(%d, %q, %d): %v, %v, want ErrDepth", format, s, depth-1, back, err)
			}
		}
	}
}

// P21.7: texts and bytes of just MaxText.
func TestThereAndBackAtMaxText(t *testing.T) {
	text := "LINESTRING (" + strings.Repeat("1 2, ", 13101) + "1 22, 1 22, 1 2)"
	if len(text) > api.MaxText || len(text) < api.MaxText-8 {
		t.Fatalf("%d bytes", len(text))
	}
	text = strings.Replace(text, "1 2,", "1 2"+strings.Repeat("3", api.MaxText-len(text))+",", 1)
	g, err := codec.ParseWKT([]byte(text), 1, api.MaxText)
	if err != nil {
		t.Fatalf("P21.7: %v", err)
	}
	s, err := codec.PrintWKT(g, api.Shortest)
	if err != nil || string(s) != text {
		t.Fatalf("P21.7: PrintWKT of %d bytes: %d, %v", len(text), len(s), err)
	}
	if s, err := codec.Canon(s, 1); err != nil || string(s) != text {
		t.Errorf("P21.8: Canon of %d bytes: %d, %v", len(text), len(s), err)
	}
}

// P21.4, P21.5, P21.8: a tree has one text, however it was written, and trees that differ have two.
func TestOneText(t *testing.T) {
	rule := sample.Rule(218)
	var before api.Geom
	var last []byte
	same := 0
	for range 4000 {
		g := rule.Tree(1 + rule.Below(3))
		if rule.Below(8) == 0 && before.Kind != 0 { // one that differs in little
			g = tree.Copy(before)
			if l := g.Line; len(l) > 0 {
				l[rule.Below(len(l))].Y ^= 1 << 63
			}
		}
		want, _ := codec.PrintWKT(g, api.Shortest)
		text, _ := codec.PrintWKT(g, modes[rule.Below(3)])
		s := loose(&rule, string(text))
		once, err := codec.Canon(s, 3)
		if err != nil || !bytes.Equal(once, want) {
			t.Fatalf("P21.4: Canon(%q) = %q, %v, want %q", s, once, err, want)
		}
		if twice, err := codec.Canon(once, 3); err != nil || !bytes.Equal(twice, once) {
			t.Fatalf("P21.8: Canon(%q) = %q, %v", once, twice, err)
		}
		if is, err := codec.Same(s, loose(&rule, string(text)), 3); err != nil || !is {
			t.Fatalf("P21.5: Same(%q, another) = %t, %v", s, is, err)
		}
		if last != nil {
			other, _ := codec.Canon(last, 3)
			is, err := codec.Same(s, last, 3)
			if err != nil || is != tree.Equal(g, before) || is != bytes.Equal(once, other) {
				t.Fatalf("P21.8: Same(%q, %q) = %t, %v", s, last, is, err)
			}
			if is {
				same++
			}
		}
		before, last = g, s
	}
	if same < 50 || same > 3000 {
		t.Errorf("%d the same", same)
	}
}

// P21.4, P21.5: texts that are nearly ones: the errors of ParseWKT.
func TestWrongTexts(t *testing.T) {
	rule := sample.Rule(214)
	refused := 0
	for range 10000 {
		g := rule.Tree(1 + rule.Below(3))
		text, _ := codec.PrintWKT(g, modes[rule.Below(3)])
		s, depth := changed(&rule, text), rule.Below(4)
		got, wrong := codec.ParseWKT(s, depth, api.MaxText)
		once, err := codec.Canon(s, depth)
		want, _ := codec.PrintWKT(got, api.Shortest)
		if !isLike(err, wrong) || !bytes.Equal(once, want) {
			t.Fatalf("P21.4: Canon(%q, %d) = %q, %v, want %q, %v", s, depth, once, err, want, wrong)
		}
		first, bad := codec.ParseWKT(text, depth, api.MaxText)
		if is, err := codec.Same(s, text, depth); wrong != nil && (is || !isLike(err, wrong)) || wrong == nil && (!isLike(err, bad) || is != (bad == nil && tree.Equal(first, got))) {
			t.Fatalf("P21.5: Same(%q, %q, %d) = %t, %v, want %v, %v", s, text, depth, is, err, wrong, bad)
		}
		if is, err := codec.Same(text, s, depth); bad != nil && (is || !isLike(err, bad)) || bad == nil && (!isLike(err, wrong) || is != (wrong == nil && tree.Equal(first, got))) {
			t.Fatalf("P21.5: Same(%q, %q, %d) = %t, %v, want %v, %v", text, s, depth, is, err, bad, wrong)
		}
		if wrong != nil {
			refused++
		}
	}
	if refused < 3000 {
		t.Errorf("only %d refused", refused)
	}
}

// P21.6: the formats that are told are those that read, and what a tree's own formats are.
func TestGuessIsWhatReads(t *testing.T) {
	rule := sample.Rule(216)
	told := map[int]int{}
	for _, g := range sample.Trees() {
		depth := tree.Depth(g)
		for _, format := range formats {
			s, _ := codec.Write(format, g)
			want := []int{format}
			if format <= api.AsHex {
				want = []int{api.AsText, api.AsHex}
			}
			if got := codec.Guess(s, depth); !slices.Equal(got, want) {
				t.Fatalf("P21.6: Guess(%q, %d) = %v, want %v", s, depth, got, want)
			}
			if got := codec.Guess(s, depth-1); len(got) != 0 {
				t.Fatalf("P21.6: Guess(%q, %d) = %v", s, depth-1, got)
			}
			s = changed(&rule, s)
			want = nil
			for _, f := range formats {
				if _, err := codec.Read(f, s, depth); err == nil {
					want = append(want, f)
				}
			}
			got := codec.Guess(s, depth)
			if !slices.Equal(got, want) {
				t.Fatalf("P21.6: Guess(%q, %d) = %v, want %v", s, depth, got, want)
			}
			told[len(got)]++
		}
	}
	if told[0] < 50 || told[1] < 50 || told[2] < 10 {
		t.Errorf("so many formats told: %v", told)
	}
}

// P21.9: bytes that are read in one order are written again, but for the patterns of empty points.
func TestOneForm(t *testing.T) {
	rule := sample.Rule(219)
	taken, others := 0, 0
	for _, g := range sample.Trees() {
		for format, little := range map[int]bool{api.AsBig: false, api.AsLittle: true} {
			b, _ := wkb.Print(g, little)
			one := slices.Clone(b)
			none := octet.Put64(nil, 0x7ff8000000000000, little)
			for at := 0; ; at += 8 {
				i := bytes.Index(b[at:], none)
				if i < 0 {
					break
				}
				at += i
				copy(b[at:], octet.Put64(nil, 0x7ff0000000000001|rule.Next()<<63|rule.Next()>>12, little))
				others++
			}
			for _, b := range [][]byte{one, b} {
				got, err := codec.Read(format, b, api.MaxDepth)
				if err != nil || !tree.Equal(got, g) {
					t.Fatalf("P21.9: Read(%d, %x): %v, %v, want %v", format, b, got, err, g)
				}
				if again, err := codec.Write(format, got); err != nil || !bytes.Equal(again, one) {
					t.Fatalf("P21.9: Write(%d, %v): %x, %v, want %x", format, got, again, err, one)
				}
			}
			// Also of bytes that some tree has, no matter which.
			b = changed(&rule, one)
			if got, err := codec.Read(format, b, api.MaxDepth); err == nil {
				taken++
				if again, err := codec.Write(format, got); err != nil || !bytes.Equal(again, b) && !bytes.Contains(again, none) {
					t.Fatalf("P21.9: Write(%d, %v): %x, %v, want %x", format, got, again, err, b)
				}
			}
		}
	}
	if taken < 30 || others < 60 {
		t.Errorf("only %d taken, %d patterns of empty points", taken, others)
	}
}

// P21.10: what is handed in stays as it is with its spare room, and every list of an answer stands apart.
func TestMemory(t *testing.T) {
	for _, plain := range sample.Trees() {
		g := sample.RoomyGeom(plain)
		whole := sample.WholeGeom(g)
		ground := sample.NewGround()
		if !ground.Geom(g) {
			t.Fatal("what is handed in shares memory")
		}
		for _, format := range formats {
			first, _ := codec.Write(format, plain)
			want := string(first)
			s := sample.Roomy(first, 0x77)
			before := slices.Clone(s[:cap(s)])
			for range 2 {
				got, err := codec.Read(format, s, api.MaxDepth)
				if err != nil || !tree.Equal(got, plain) || !ground.Geom(got) {
					t.Fatalf("P21.10: Read(%d, %q): %v, %v, or it shares memory", format, s, got, err)
				}
				out, err := codec.Write(format, g)
				if err != nil || string(out) != want {
					t.Fatalf("P21.10: Write(%d, %v): %q, %v", format, plain, out, err)
				}
				guess := codec.Guess(s, api.MaxDepth)
				if !slices.Contains(guess, format) {
					t.Fatalf("P21.10: Guess(%q): %v", s, guess)
				}
				clear(out[:cap(out)])
				clear(guess[:cap(guess)])
				clear(got.Line)
				if format == api.AsText {
					canon, err := codec.Canon(s, api.MaxDepth)
					if err != nil || string(canon) != want {
						t.Fatalf("P21.10: Canon(%q): %q, %v", s, canon, err)
					}
					clear(canon[:cap(canon)])
					if is, err := codec.Same(s, s, api.MaxDepth); err != nil || !is {
						t.Fatalf("P21.10: Same(%q, itself): %t, %v", s, is, err)
					}
				}
			}
			if !slices.Equal(s[:cap(s)], before) {
				t.Errorf("P21.10: what was handed in is changed: %q", before)
			}
			// What is done to the bytes later is not seen in the tree.
			got, _ := codec.Read(format, s, api.MaxDepth)
			clear(s)
			if !tree.Equal(got, plain) {
				t.Errorf("P21.10: the tree keeps the bytes: %v", got)
			}
		}
		if !tree.Equal(sample.WholeGeom(g), whole) {
			t.Errorf("P21.10: what was handed in is changed: %v", plain)
		}
	}
}

// P21.10, P0.1: many may ask at once; an error that is written over changes no later one.
func TestManyAtOnce(t *testing.T) {
	trees := sample.Trees()[:120]
	var wait sync.WaitGroup
	for from := range 4 {
		wait.Go(func() {
			for i, g := range trees[from*10:] {
				format := formats[(i+from)%len(formats)]
				s, err := codec.Write(format, g)
				back, bad := codec.Read(format, s, api.MaxDepth)
				if err != nil || bad != nil || !tree.Equal(back, g) {
					t.Errorf("P21.10: Read(%d, %q): %v, %v, %v, want %v", format, s, back, err, bad, g)
				}
				_, err = codec.Write(9, g)
				_, bad = codec.Read(0, s, 1)
				_, other := codec.Read(api.AsBig, []byte{1, 2, 0, 0, 0, 0, 0, 0, 0}, 1)
				if !isFault(err, 0, api.ErrFormat) || !isFault(bad, 0, api.ErrFormat) || !isFault(other, 0, api.ErrOrder) {
					t.Errorf("P21.10: %v, %v, %v", err, bad, other)
					return
				}
				for _, e := range []error{err, bad, other} {
					*e.(*api.Fault) = api.Fault{At: -7}
				}
			}
		})
	}
	wait.Wait()
}
