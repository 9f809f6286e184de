package print_test

import (
	"errors"
	"math"
	"strconv"
	"strings"

	"plumb/api"
)

// isFault tells whether an error is a *api.Fault itself, with that place and that Errno.
func isFault(err error, at int, code api.Errno) bool {
	f, ok := err.(*api.Fault)
	return ok && f != nil && f.At == at && f.Err == error(code) && errors.Is(err, code) && api.Code(err) == code && api.Place(err) == at
}

// modes are all that there are.
var modes = []int{api.Shortest, api.HexFloat, api.Science}

// kinds are the words of the kinds, by their numbers.
var kinds = []string{1: "POINT", 2: "LINESTRING", 3: "POLYGON", 4: "MULTIPOINT", 5: "MULTILINESTRING", 6: "MULTIPOLYGON", 7: "GEOMETRYCOLLECTION"}

// plainNumber writes a pattern's number by the library's road.
func plainNumber(b uint64, mode int) string {
	f := math.Float64frombits(b)
	science := strconv.FormatFloat(f, 'e', -1, 64)
	_, tail, _ := strings.Cut(science, "e")
	ten, _ := strconv.Atoi(tail)
	switch {
	case mode == api.HexFloat:
		head, exp, _ := strings.Cut(strconv.FormatFloat(f, 'x', -1, 64), "p")
		n, _ := strconv.Atoi(exp)
		return head + "p" + exp[:1] + strings.TrimLeft(strconv.Itoa(n), "-")
	case mode == api.Science || ten < -6 || ten > 20:
		return science
	}
	return strconv.FormatFloat(f, 'f', -1, 64)
}

// plainPairs writes points in parentheses.
func plainPairs(l []api.Point, mode int) string {
	var members []string
	for _, p := range l {
		members = append(members, plainNumber(p.X, mode)+" "+plainNumber(p.Y, mode))
	}
	return "(" + strings.Join(members, ", ") + ")"
}

// plainText writes a tree by joining the texts of its parts, from which their words are taken away again where they
// don't belong.
func plainText(g api.Geom, mode int) string {
	word := kinds[g.Kind] + " "
	if len(g.Line)+len(g.Rings)+len(g.Parts) == 0 {
		return word + "EMPTY"
	}
	if len(g.Line) > 0 {
		return word + plainPairs(g.Line, mode)
	}
	var members []string
	for _, ring := range g.Rings {
		members = append(members, plainPairs(ring, mode))
	}
	for _, part := range g.Parts {
		text := plainText(part, mode)
		if g.Kind != api.Collection {
			text = strings.TrimPrefix(text, kinds[g.Kind-3]+" ")
		}
		members = append(members, text)
	}
	return word + "(" + strings.Join(members, ", ") + ")"
}

// plainLines lays a text into lines, piece by piece.
func plainLines(text string, width int) string {
	pieces := strings.Split(text, ", ")
	for i := range len(pieces) - 1 {
		pieces[i] += ","
	}
	lines := []string{pieces[0]}
	for _, piece := range pieces[1:] {
		longer := lines[len(lines)-1] + " " + piece
		if len(longer) <= width {
			lines[len(lines)-1] = longer
		} else {
			lines = append(lines, piece)
		}
	}
	return strings.Join(lines, "\n")
}
