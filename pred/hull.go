package pred

import (
	"cmp"
	"slices"

	"plumb/api"
)

// Hull gives the corners of the hull of points, turning left, from the least one on, none on a line between two others.
func Hull(l []api.Point) ([]api.Point, api.Errno) {
	spots, e := spotsOf(l...)
	if e != api.OK {
		return nil, e
	}
	var out []api.Point
	for _, i := range corners(spots, inOrder(spots)) {
		out = append(out, l[i])
	}
	return out, api.OK
}

// inOrder gives the numbers of the places in order, of those that are one place the least number alone.
func inOrder(spots []spot) []int {
	out := make([]int, len(spots))
	for i := range out {
		out[i] = i
	}
	slices.SortFunc(out, func(i, j int) int {
		return cmp.Or(order(spots[i], spots[j]), cmp.Compare(i, j))
	})
	return slices.CompactFunc(out, func(i, j int) bool { return order(spots[i], spots[j]) == 0 })
}

// corners gives those of the places, told by their numbers in order, that are the hull's.
func corners(spots []spot, row []int) []int {
	if len(row) < 2 {
		return row
	}
	there := chain(spots, row)
	slices.Reverse(row)
	back := chain(spots, row)
	// Each ends where the other begins.
	return slices.Concat(there[:len(there)-1], back[:len(back)-1])
}

// chain gives the hull's corners from the first of the row to the last, those right of the line between them.
func chain(spots []spot, row []int) []int {
	var out []int
	for _, next := range row {
		for n := len(out); n > 1 && turn(spots[out[n-2]], spots[out[n-1]], spots[next]) < 1; n-- {
			out = out[:n-1]
		}
		out = append(out, next)
	}
	return out
}
