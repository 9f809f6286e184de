package print_test

import (
	"math"
	"slices"
	"strings"
	"sync"
	"testing"

	"plumb/api"
	"plumb/print"
	"plumb/sample"
	"plumb/tree"
	"plumb/wkt"
)

// P20.1 to P20.3, P20.5, P20.7: trees in every mode, against the plain way, and read back with limits that just hold them.
func TestThereAndBack(t *testing.T) {
	rule := sample.Rule(205)
	for _, g := range sample.Trees() {
		depth := tree.Depth(g)
		for _, mode := range modes {
			want := plainText(g, mode)
			text, err := print.Text(g, mode)
			if err != nil || text != want {
				t.Fatalf("P20.1: Text(%v, %d) = %q, %v, want %q", g, mode, text, err, want)
			}
			if n, err := print.Length(g, mode); err != nil || n != len(want) {
				t.Fatalf("P20.3: Length(%v, %d) = %d, %v, want %d", g, mode, n, err, len(want))
			}
			if back, err := wkt.Parse(text, depth, len(text)); err != nil || !tree.Equal(back, g) {
				t.Fatalf("P20.5: Parse(%q) = %v, %v, want %v", text, back, err, g)
			}
			n := len(text)
			for _, width := range []int{1, 2, 10, 20, 40, 80, n - 1, n, n + 1, 1 + rule.Below(n), 1 + rule.Below(n), math.MaxInt} {
				pretty, err := print.Pretty(g, mode, width)
				if err != nil || pretty != plainLines(want, width) {
					t.Fatalf("P20.2: Pretty(%v, %d, %d) = %q, %v, want %q", g, mode, width, pretty, err, plainLines(want, width))
				}
				if back, err := wkt.Parse(pretty, depth, n); err != nil || !tree.Equal(back, g) {
					t.Fatalf("P20.5: Parse(%q) = %v, %v, want %v", pretty, back, err, g)
				}
				holdsLines(t, text, pretty, width)
			}
		}
	}
}

// holdsLines holds lines to what follows of them.
func holdsLines(t *testing.T, text string, pretty string, width int) {
	t.Helper()
	if strings.ReplaceAll(pretty, "\n", " ") != text {
		t.Fatalf("P20.7: lines of %d: %q are not %q", width, pretty, text)
	}
	if width >= len(text) && pretty != text {
		t.Fatalf("P20.7: lines of %d: %q, want %q", width, pretty, text)
	}
	if width == 1 && pretty != strings.ReplaceAll(text, ", ", ",\n") {
		t.Fatalf("P20.7: lines of 1: %q, of %q", pretty, text)
	}
	lines := strings.Split(pretty, "\n")
	for i, l := range lines {
		if len(l) > width && strings.Contains(l, ", ") {
			t.Fatalf("P20.2: lines of %d: %q", width, l)
		}
		if i == 0 {
			continue
		}
		first, _, _ := strings.Cut(l, ",")
		if strings.Contains(l, ",") {
			first += ","
		}
		if len(lines[i-1])+1+len(first) <= width {
			t.Fatalf("P20.2: lines of %d: %q would have gone behind %q", width, first, lines[i-1])
		}
	}
}

// P20.1: numbers of all sizes, in both places of a pair.
func TestNumbers(t *testing.T) {
	patterns := sample.Patterns()
	for i, x := range patterns {
		g := sample.Point(api.Point{X: x, Y: patterns[(i*7+1)%len(patterns)]})
		mode := modes[i%len(modes)]
		if got, err := print.Text(g, mode); err != nil || got != plainText(g, mode) {
			t.Fatalf("P20.1: Text(%x, %d) = %q, %v, want %q", g.Line, mode, got, err, plainText(g, mode))
		}
	}
}

// P20.6: trees of one text are one.
func TestOneText(t *testing.T) {
	rule := sample.Rule(206)
	list := sample.Trees()
	for range 3000 {
		list = append(list, rule.Tree(1+rule.Below(3)))
	}
	// Such as differ in little: where things stand, 0 and -0, patterns beside each other.
	a, b := sample.At(1, 2), sample.At(3, 4)
	list = append(list,
		sample.Line(a, b), sample.Line(b, a), sample.Polygon([]api.Point{a, b}), sample.Polygon([]api.Point{a}, []api.Point{b}),
		sample.Group(4, sample.Point(a), sample.Point(b)), sample.Group(5, sample.Line(a), sample.Line(b)), sample.Group(5, sample.Line(a, b)),
		sample.Group(6, sample.Polygon([]api.Point{a}, []api.Point{b})), sample.Group(6, sample.Polygon([]api.Point{a}), sample.Polygon([]api.Point{b})),
		sample.Group(7, sample.Point(a), sample.Point(b)), sample.Group(7, sample.Line(a, b)), sample.Group(7, sample.Group(7, sample.Line(a, b))),
		sample.Group(7, sample.Group(7), sample.Group(7)), sample.Group(7, sample.Group(7, sample.Group(7))), sample.Group(7, sample.Group(7)),
	)
	for _, x := range []uint64{0, 1 << 63, 1, 2, 0x3ff0000000000000, 0x3ff0000000000001, 0x3fefffffffffffff, 0x7fefffffffffffff, 0x7feffffffffffffe} {
		list = append(list, sample.Point(api.Point{X: x}), sample.Point(api.Point{Y: x}))
	}
	for _, mode := range modes {
		seen := map[string]api.Geom{}
		for _, g := range list {
			text, err := print.Text(g, mode)
			if err != nil {
				t.Fatalf("P20.1: Text(%v, %d): %v", g, mode, err)
			}
			if other, ok := seen[text]; ok && !tree.Equal(g, other) {
				t.Fatalf("P20.6: %q in mode %d is the text of %v and of %v", text, mode, g, other)
			}
			seen[text] = g
		}
	}
}

// P20.8: a text is made of the texts of the parts.
func TestInParts(t *testing.T) {
	groups := 0
	for _, g := range sample.Trees() {
		if len(g.Parts) == 0 {
			continue
		}
		groups++
		for _, mode := range modes {
			var members []string
			for _, part := range g.Parts {
				text, err := print.Text(part, mode)
				if err != nil {
					t.Fatalf("P20.1: Text(%v, %d): %v", part, mode, err)
				}
				if g.Kind != api.Collection {
					word, _ := print.Name(part.Kind)
					text = text[len(word)+1:]
				}
				members = append(members, text)
			}
			word, _ := print.Name(g.Kind)
			want := word + " (" + strings.Join(members, ", ") + ")"
			if got, err := print.Text(g, mode); err != nil || got != want {
				t.Fatalf("P20.8: Text(%v, %d) = %q, %v, want %q", g, mode, got, err, want)
			}
		}
	}
	if groups < 50 {
		t.Errorf("only %d trees with parts", groups)
	}
}

// P20.1: any Geom is refused just as Check refuses it, or written.
func TestAnyGeom(t *testing.T) {
	rule := sample.Rule(201)
	refused, taken := 0, 0
	for range 20000 {
		g := rule.Geom(1 + rule.Below(3))
		if rule.Below(2) == 0 { // a tree, most of it whole
			g = rule.Tree(3)
			if len(g.Parts) > 0 && rule.Below(2) == 0 {
				g.Parts[rule.Below(len(g.Parts))] = rule.Geom(2)
			}
		}
		want := tree.Check(g)
		for _, mode := range modes {
			text, err := print.Text(g, mode)
			n, bad := print.Length(g, mode)
			pretty, worse := print.Pretty(g, mode, 1+rule.Below(99))
			if want == nil {
				taken++
				if err != nil || bad != nil || worse != nil || text != plainText(g, mode) || n != len(text) || len(pretty) != n {
					t.Fatalf("P20.1: Text(%v, %d) = %q, %v, want %q", g, mode, text, err, plainText(g, mode))
				}
				continue
			}
			refused++
			for _, e := range []error{err, bad, worse} {
				if !isFault(e, api.Place(want), api.Code(want)) || text != "" || n != 0 || pretty != "" {
					t.Fatalf("P20.1: Text(%v, %d) = %q, %v, want %v", g, mode, text, e, want)
				}
			}
		}
	}
	if refused < 1000 || taken < 1000 {
		t.Errorf("%d refused, %d taken", refused, taken)
	}
}

// P20.9: what is handed in stays as it is with its spare room, and is not kept.
func TestMemory(t *testing.T) {
	for _, plain := range sample.Trees() {
		g := sample.RoomyGeom(plain)
		whole := sample.WholeGeom(g)
		for _, mode := range modes {
			want := plainText(plain, mode)
			for range 2 {
				text, err := print.Text(g, mode)
				n, bad := print.Length(g, mode)
				pretty, worse := print.Pretty(g, mode, 30)
				if err != nil || bad != nil || worse != nil || text != want || n != len(want) || pretty != plainLines(want, 30) {
					t.Fatalf("P20.9: Text(%v, %d) = %q, %v, want %q", plain, mode, text, err, want)
				}
			}
		}
		if !tree.Equal(sample.WholeGeom(g), whole) {
			t.Errorf("P20.9: what was handed in is changed: %v", plain)
		}
		// What is done to the tree later is seen in its next text, and in no earlier one.
		before, _ := print.Text(g, api.Shortest)
		kept := strings.Clone(before)
		points := slices.Clone(tree.Points(g))
		spoil(g)
		after, err := print.Text(g, api.Shortest)
		if err != nil || before != kept || after != plainText(g, api.Shortest) || len(points) > 0 && after == before {
			t.Errorf("P20.9: Text of a changed tree = %q, %v, before %q", after, err, before)
		}
	}
}

// spoil changes all points of a tree.
func spoil(g api.Geom) {
	for i := range g.Line {
		g.Line[i].X ^= 1 << 63
	}
	for _, ring := range g.Rings {
		for i := range ring {
			ring[i].X ^= 1 << 63
		}
	}
	for _, part := range g.Parts {
		spoil(part)
	}
}

// P20.9, P0.1: many may ask at once, also of one tree; an error that is written over changes no later one.
func TestManyAtOnce(t *testing.T) {
	trees := sample.Trees()
	var wait sync.WaitGroup
	for from := range 4 {
		wait.Go(func() {
			for i, g := range trees[from*10:] {
				mode := modes[(i+from)%len(modes)]
				want := plainText(g, mode)
				text, err := print.Text(g, mode)
				n, bad := print.Length(g, mode)
				pretty, worse := print.Pretty(g, mode, 40)
				if err != nil || bad != nil || worse != nil || text != want || n != len(want) || pretty != plainLines(want, 40) {
					t.Errorf("P20.9: Text(%v, %d) = %q, %v, want %q", g, mode, text, err, want)
				}
				_, err = print.Text(g, 9)
				_, bad = print.Pretty(g, mode, 0)
				_, worse = print.Text(api.Geom{}, mode)
				if !isFault(err, 0, api.ErrPrint) || !isFault(bad, 0, api.ErrWidth) || !isFault(worse, 0, api.ErrShape) {
					t.Errorf("P20.9: %v, %v, %v", err, bad, worse)
					return
				}
				for _, e := range []error{err, bad, worse} {
					*e.(*api.Fault) = api.Fault{At: -7}
				}
			}
		})
	}
	wait.Wait()
}
