package print

import "strings"

// between is what stands between two members. A comma stands nowhere else, so that a text can be cut by it.
const between = ", "

// inLines lays a text into lines of at most so many bytes, where its pieces have no more: a line ends where a piece
// would make it longer.
func inLines(text string, width int) string {
	out := []byte(text)
	line, at := 0, 0 // where the line begins, and the piece
	for _, piece := range strings.SplitAfter(text, between) {
		end := at + len(strings.TrimSuffix(piece, " "))
		if at > 0 && end-line > width {
			out[at-1] = '\n'
			line = at
		}
		at += len(piece)
	}
	return string(out)
}
