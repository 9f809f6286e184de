package valid_test

import (
	"math"
	"slices"
	"testing"

	"plumb/api"
	"plumb/sample"
	"plumb/valid"
)

const (
	great = 0x1p1023
	least = 0x1p-1074
	most  = math.MaxFloat64
)

var zero = math.Copysign(0, -1) // -0

// at gives a point by two floats.
func at(x, y float64) api.Point {
	return sample.Spot(x, y)
}

// row gives points by floats, two a point.
func row(l ...float64) []api.Point {
	return sample.Spots(l...)
}

// one tells a flaw of the root.
func one(kind, ring, spot int, where ...api.Point) api.Flaw {
	f := api.Flaw{Kind: kind, Ring: ring, Spot: spot}
	if len(where) > 0 {
		f.Where = where[0]
	}
	return f
}

// told fails where Check and the first of All aren't that flaw of the root, or where All does not tell of all geometries.
func told(t *testing.T, promise string, g api.Geom, want api.Flaw) {
	t.Helper()
	if f, e := valid.Check(g); !equal(f, want) || e != api.OK {
		t.Errorf("%s: Check(%x) = %v, %d, want %v", promise, g, f, e, want)
	}
	if l, e := valid.All(g); len(l) != 1+len(g.Parts) || !equal(l[0], want) || e != api.OK {
		t.Errorf("%s: All(%x) = %v, %d, want %v first", promise, g, l, e, want)
	}
}

var (
	square  = row(0, 0, 4, 0, 4, 4, 0, 4, 0, 0)
	bow     = row(0, 0, 4, 4, 4, 0, 0, 4, 0, 0)
	hole    = row(1, 1, 2, 1, 1, 2, 1, 1)
	room    = row(1, 1, 3, 1, 3, 3, 1, 3, 1, 1)
	speck   = row(1.5, 1.5, 2, 1.5, 1.5, 2, 1.5, 1.5)
	diamond = row(2, 0, 4, 2, 2, 4, 0, 2, 2, 0)
)

// P25.3
func TestRingByItself(t *testing.T) {
	for name, c := range map[string]struct {
		r    []api.Point
		want api.Flaw
	}{
		"square":                         {square, one(0, 0, 0)},
		"other zeros at the end":         {row(0, 0, 4, 0, 4, 4, 0, 4, zero, zero), one(0, 0, 0)},
		"a point twice in a row":         {row(0, 0, 4, 0, 4, 0, 4, 4, 0, 0), one(0, 0, 0)},
		"0 and -0 in a row":              {row(0, 0, zero, 0, 4, 0, 4, zero, 4, 4, 0, 0, 0, zero), one(0, 0, 0)},
		"straight on":                    {row(0, 0, 2, 0, 4, 0, 4, 4, 0, 0), one(0, 0, 0)},
		"one point":                      {row(7, 8), one(api.FlawFew, 0, 0)},
		"two points":                     {row(0, 0, 1, 1), one(api.FlawFew, 0, 0)},
		"three points, closed":           {row(1, 1, 2, 1, 1, 1), one(api.FlawFew, 0, 0)},
		"three points, open":             {row(1, 1, 2, 1, 1, 2), one(api.FlawFew, 0, 0)},
		"three points, one place":        {row(1, 1, 1, 1, 1, 1), one(api.FlawFew, 0, 0)},
		"open":                           {row(0, 0, 1, 0, 1, 1, 0, 1), one(api.FlawOpen, 0, 3, at(0, 1))},
		"open bow":                       {row(0, 0, 4, 4, 4, 0, 0, 4, zero, 1), one(api.FlawOpen, 0, 4, at(zero, 1))},
		"open by one step":               {row(0, 0, 1, 0, 1, 1, 0, least), one(api.FlawOpen, 0, 3, at(0, least))},
		"one place":                      {row(1, 1, 1, 1, 1, 1, 1, 1), one(api.FlawTwice, 0, 0, at(1, 1))},
		"one place, other zeros":         {row(zero, 0, 0, 0, 0, zero, 0, 0, zero, zero), one(api.FlawTwice, 0, 0, at(zero, 0))},
		"bow":                            {bow, one(api.FlawSelf, 0, 0, at(0, 0))},
		"bow, begun elsewhere":           {row(4, 0, 0, 4, 0, 0, 4, 4, 4, 0), one(api.FlawSelf, 0, 0, at(4, 0))},
		"there and back":                 {row(0, 0, 4, 0, 0, 0, 0, 0), one(api.FlawSelf, 0, 0, at(0, 0))},
		"there and back, from the point": {row(zero, 3, 4, 3, 4, 3, 0, 3), one(api.FlawSelf, 0, 0, at(zero, 3))},
		"back on the way":                {row(0, 0, 4, 0, 2, 0, 0, 0), one(api.FlawSelf, 0, 0, at(0, 0))},
		"a spike":                        {row(0, 0, 2, 0, 2, 2, 2, 0, 4, 0, 4, 4, 0, 4, 0, 0), one(api.FlawSelf, 0, 0, at(0, 0))},
		"a spike at the end":             {row(0, 0, 4, 0, 4, 4, 0, 4, 0, 0, -2, 0, 0, 0), one(api.FlawSelf, 0, 0, at(0, 0))},
		"the last one on the first":      {row(0, 0, 4, 0, 4, 4, 2, 2, 2, 0, 0, 0), one(api.FlawSelf, 0, 0, at(0, 0))},
		"the last one beyond the first":  {row(0, 0, 2, 0, 2, 2, 4, 2, 4, 0, 0, 0), one(api.FlawSelf, 0, 0, at(0, 0))},
		"a corner touches":               {row(9, 0, 0, 0, 4, 0, 4, 4, 2, 0, 0, 4, 0, 9, 9, 0), one(api.FlawSelf, 0, 0, at(9, 0))},
		"a corner touches a stretch":     {row(0, 5, 0, 0, 4, 0, 4, 4, 2, 0, 1, 5, 0, 5), one(api.FlawSelf, 0, 1, at(0, 0))},
		"a place twice":                  {row(0, 0, 4, 0, 2, 2, 4, 4, 0, 4, 2, 2, 0, 0), one(api.FlawSelf, 0, 1, at(4, 0))},
		"behind doubled points":          {row(0, 0, 0, zero, 8, 0, 8, 0, 8, 4, 4, 8, 4, 4, 8, 8, 0, 8, 0, 0), one(api.FlawSelf, 0, 4, at(8, 4))},
		"the stretch's own first point":  {row(0, 0, zero, zero, 4, 4, 4, 0, 0, 4, 0, 0), one(api.FlawSelf, 0, 1, at(zero, zero))},
		"gone round twice":               {slices.Concat(square, square[1:]), one(api.FlawSelf, 0, 0, at(0, 0))},
		"thin by one step, far out":      {row(0, 0, great, great, math.Nextafter(great, 0), great, 0, 0), one(0, 0, 0)},
		"flat, far out":                  {row(0, 0, great, great, great/2, great/2, 0, 0), one(api.FlawSelf, 0, 0, at(0, 0))},
		"the least triangle":             {row(0, 0, least, 0, 0, least, 0, 0), one(0, 0, 0)},
		"the greatest square":            {row(-most, -most, most, -most, most, most, -most, most, -most, -most), one(0, 0, 0)},
		"a hair off a corner":            {row(0, 0, most, 0, most, least, least, least, most, 2*least, 0, 2*least, 0, 0), one(0, 0, 0)},
		"no hair off":                    {row(0, 0, most, 0, most, least, 0, least, most, 2*least, 0, 2*least, 0, 0), one(api.FlawSelf, 0, 2, at(most, least))},
	} {
		told(t, "P25.3: "+name, sample.Polygon(c.r), c.want)
		// As a hole: ahead of all that is asked of two rings.
		c.want.Ring = 1
		if c.want.Kind != 0 {
			told(t, "P25.3: "+name+", a hole", sample.Polygon(row(100, 100, 101, 100, 100, 101, 100, 100), c.r, bow), c.want)
		}
	}
}

// P25.2
func TestPolygon(t *testing.T) {
	for name, c := range map[string]struct {
		rings [][]api.Point
		want  api.Flaw
	}{
		"none":                                    {nil, one(0, 0, 0)},
		"a hole":                                  {[][]api.Point{square, hole}, one(0, 0, 0)},
		"a hole turned round":                     {[][]api.Point{square, row(1, 1, 1, 2, 2, 1, 1, 1)}, one(0, 0, 0)},
		"all turned round":                        {[][]api.Point{row(0, 0, 0, 4, 4, 4, 4, 0, 0, 0), row(1, 1, 1, 2, 2, 1, 1, 1)}, one(0, 0, 0)},
		"a hole through the shell":                {[][]api.Point{square, row(3, 3, 5, 3, 3, 5, 3, 3)}, one(api.FlawCross, 1, 0)},
		"through a corner":                        {[][]api.Point{square, row(3, 3, 5, 5, 3, 5, 3, 3)}, one(api.FlawCross, 1, 0)},
		"out by a corner, back by one":            {[][]api.Point{square, row(2, 2, 4, 0, 6, 2, 4, 4, 2, 2)}, one(api.FlawCross, 1, 0)},
		"outside":                                 {[][]api.Point{square, row(5, 5, 6, 5, 5, 6, 5, 5)}, one(api.FlawOutside, 1, 0)},
		"outside, at a corner":                    {[][]api.Point{square, row(4, 4, 5, 4, 4, 5, 4, 4)}, one(api.FlawOutside, 1, 0)},
		"outside, with a corner on it":            {[][]api.Point{square, row(4, 2, 5, 2, 5, 3, 4, 2)}, one(api.FlawOutside, 1, 0)},
		"outside, along two stretches":            {[][]api.Point{row(0, 0, 2, 2, 4, 0, 4, 6, 0, 6, 0, 0), row(1, 1, 2, 2, 3, 1, 1, 1)}, one(api.FlawCross, 1, 0)},
		"filling a bay":                           {[][]api.Point{row(0, 0, 3, 3, 6, 0, 6, 9, 0, 9, 0, 0), row(0, 0, 6, 0, 3, 3, 0, 0)}, one(api.FlawCross, 1, 0)},
		"outside, all corners on it":              {[][]api.Point{row(0, 0, 2, 3, 3, 2, 4, 3, 6, 0, 6, 9, 0, 9, 0, 0), row(0, 0, 3, 2, 6, 0, 0, 0)}, one(api.FlawOutside, 1, 0)},
		"around":                                  {[][]api.Point{square, row(-1, -1, 5, -1, 5, 5, -1, 5, -1, -1)}, one(api.FlawOutside, 1, 0)},
		"around, all corners on it":               {[][]api.Point{diamond, square}, one(api.FlawOutside, 1, 0)},
		"the shell again":                         {[][]api.Point{square, square}, one(api.FlawCross, 1, 0)},
		"shared stretches":                        {[][]api.Point{square, row(0, 0, 1, 0, 0, 1, 0, 0)}, one(api.FlawCross, 1, 0)},
		"a shared part of a stretch":              {[][]api.Point{square, row(1, 0, 2, 0, 2, 1, 1, 0)}, one(api.FlawCross, 1, 0)},
		"a corner touched":                        {[][]api.Point{square, row(0, 0, 2, 1, 1, 2, 0, 0)}, one(0, 0, 0)},
		"other zeros touched":                     {[][]api.Point{square, row(zero, zero, 2, 1, 1, 2, 0, zero)}, one(0, 0, 0)},
		"a stretch touched":                       {[][]api.Point{square, row(2, 0, 3, 1, 1, 1, 2, 0)}, one(0, 0, 0)},
		"a corner of the shell on a hole":         {[][]api.Point{row(0, 0, 2, 2, 4, 0, 4, 4, 0, 4, 0, 0), row(1, 2, 3, 2, 2, 3, 1, 2)}, one(0, 0, 0)},
		"two corners touched":                     {[][]api.Point{square, row(0, 0, 4, 4, 2, 3, 0, 0)}, one(api.FlawCut, 0, 0)},
		"all corners on the shell":                {[][]api.Point{square, diamond}, one(api.FlawCut, 0, 0)},
		"nested":                                  {[][]api.Point{square, room, speck}, one(api.FlawNested, 2, 1)},
		"nested the other way":                    {[][]api.Point{square, speck, room}, one(api.FlawNested, 2, 1)},
		"nested, all corners on it":               {[][]api.Point{row(-1, -1, 5, -1, 5, 5, -1, 5, -1, -1), square, diamond}, one(api.FlawNested, 2, 1)},
		"nested around, all corners on it":        {[][]api.Point{row(-1, -1, 5, -1, 5, 5, -1, 5, -1, -1), diamond, square}, one(api.FlawNested, 2, 1)},
		"holes side by side":                      {[][]api.Point{square, hole, row(2, 1, 3, 1, 3, 2, 2, 1)}, one(0, 0, 0)},
		"holes that touch twice":                  {[][]api.Point{square, row(1, 1, 3, 1, 2, 2, 1, 1), row(1, 1, 1, 3, 3, 3, 3, 1, 2, 2.5, 1, 1)}, one(api.FlawCut, 0, 0)},
		"holes that cross":                        {[][]api.Point{square, room, row(2, 2, 3.5, 2, 3.5, 3.5, 2, 2)}, one(api.FlawCross, 2, 1)},
		"holes that share a stretch":              {[][]api.Point{square, row(1, 1, 2, 1, 2, 2, 1, 1), row(1, 1, 2, 2, 1, 3, 1, 1)}, one(api.FlawCross, 2, 1)},
		"a hole twice":                            {[][]api.Point{square, hole, hole}, one(api.FlawCross, 2, 1)},
		"one ring ahead of pairs":                 {[][]api.Point{square, row(5, 5, 6, 5, 5, 6, 5, 5), bow[:4]}, one(api.FlawOpen, 2, 3, at(0, 4))},
		"the first pair: 2 0 ahead of 2 1":        {[][]api.Point{square, room, row(2, 2, 5, 2, 2, 2.5, 2, 2)}, one(api.FlawCross, 2, 0)},
		"the first pair: 1 0 ahead of 3 2":        {[][]api.Point{square, row(5, 5, 6, 5, 5, 6, 5, 5), room, speck}, one(api.FlawOutside, 1, 0)},
		"nested ahead of cut":                     {[][]api.Point{square, row(0, 0, 4, 4, 2, 3, 0, 0), row(2.5, 1, 3.5, 1, 3.5, 2, 2.5, 1), row(3, 1.25, 3.25, 1.25, 3.25, 1.5, 3, 1.25)}, one(api.FlawNested, 3, 2)},
		"outside ahead of cut":                    {[][]api.Point{square, row(0, 0, 4, 4, 2, 3, 0, 0), row(9, 9, 10, 9, 9, 10, 9, 9)}, one(api.FlawOutside, 2, 0)},
		"a hole that the shell does not go round": {[][]api.Point{hole, square}, one(api.FlawOutside, 1, 0)},
		"by one step inside":                      {[][]api.Point{row(-great, -great, great, great, -great, great, -great, -great), row(0, least, 0, 1, -1, 1, 0, least)}, one(0, 0, 0)},
		"by one step on it":                       {[][]api.Point{row(-great, -great, great, great, -great, great, -great, -great), row(least, least, 0, 1, -1, 1, least, least)}, one(0, 0, 0)},
		"by one step across":                      {[][]api.Point{row(-great, -great, great, great, -great, great, -great, -great), row(2*least, least, 0, 1, -1, 1, 2*least, least)}, one(api.FlawCross, 1, 0)},
	} {
		told(t, "P25.2: "+name, sample.Polygon(c.rings...), c.want)
		if plain := plainPolygon(c.rings); !equal(plain, c.want) {
			t.Errorf("P25.2: %s: by the words %v, not %v", name, plain, c.want)
		}
	}
}

// P25.2: round trips.
func TestCut(t *testing.T) {
	big := row(0, 0, 12, 0, 12, 12, 0, 12, 0, 0)
	chain := [][]api.Point{big, row(0, 6, 2, 5, 4, 6, 2, 7, 0, 6), row(4, 6, 6, 5, 8, 6, 6, 7, 4, 6)}
	last := row(8, 6, 10, 5, 12, 6, 10, 7, 8, 6)
	short := row(8, 6, 10, 5, 11, 6, 10, 7, 8, 6)
	star := [][]api.Point{big, row(6, 6, 8, 5, 8, 7, 6, 6), row(6, 6, 4, 5, 4, 7, 6, 6), row(6, 6, 5, 8, 7, 8, 6, 6), row(6, 6, 5, 4, 7, 4, 6, 6)}
	triangle := [][]api.Point{big, row(2, 2, 6, 2, 4, 3, 2, 2), row(6, 2, 6, 6, 5, 4, 6, 2), row(2, 2, 3, 4, 6, 6, 2, 4, 2, 2)}
	for name, c := range map[string]struct {
		rings [][]api.Point
		want  int
	}{
		"a chain from side to side":         {append(slices.Clone(chain), last), api.FlawCut},
		"a chain from side to side, mixed":  {[][]api.Point{big, last, chain[1], chain[2]}, api.FlawCut},
		"a chain that ends inside":          {append(slices.Clone(chain), short), 0},
		"all in one place":                  {star, 0},
		"all in one place, and one on":      {append(slices.Clone(star), row(8, 7, 9, 7, 9, 8, 8, 7)), 0},
		"all in one place, and round":       {append(slices.Clone(star), row(8, 7, 9, 9, 7, 8, 8, 7)), api.FlawCut},
		"all in one place, and two round":   {append(slices.Clone(star), row(8, 7, 9, 7, 9, 8, 8, 7), row(9, 8, 9, 9, 7, 8, 9, 8)), api.FlawCut},
		"three by twos":                     {triangle, api.FlawCut},
		"three by twos, one open":           {append(slices.Clone(triangle[:3]), row(2, 2, 3, 4, 5, 6, 2, 4, 2, 2)), 0},
		"all in one place, at the shell":    {[][]api.Point{big, row(0, 0, 4, 1, 4, 2, 0, 0), row(0, 0, 2, 4, 1, 4, 0, 0), row(0, 0, 3, 2, 2, 3, 0, 0)}, 0},
		"each at the shell":                 {[][]api.Point{big, row(0, 0, 4, 1, 4, 2, 0, 0), row(12, 12, 8, 9, 9, 8, 12, 12), row(12, 1, 9, 1, 9, 2, 12, 1)}, 0},
		"two at the shell that meet":        {[][]api.Point{big, row(0, 6, 4, 5, 4, 6, 0, 6), row(12, 6, 4, 6, 8, 7, 12, 6)}, api.FlawCut},
		"two groups that are joined":        {[][]api.Point{big, row(2, 2, 3, 2, 3, 3, 2, 2), row(3, 3, 4, 3, 4, 4, 3, 3), row(7, 7, 8, 7, 8, 8, 7, 7), row(8, 8, 9, 8, 9, 9, 8, 8), row(4, 4, 6, 5, 7, 7, 5, 6, 4, 4)}, 0},
		"two groups that are joined twice":  {[][]api.Point{big, row(2, 2, 3, 2, 3, 3, 2, 2), row(3, 3, 4, 3, 4, 4, 3, 3), row(7, 7, 8, 7, 8, 8, 7, 7), row(8, 8, 9, 8, 9, 9, 8, 8), row(4, 4, 6, 5, 7, 7, 5, 6, 4, 4), row(2, 2, 4, 8, 9, 9, 3, 9, 2, 2)}, api.FlawCut},
		"with other zeros":                  {[][]api.Point{big, row(zero, zero, 2, 5, zero, 6, 1, 5, 0, 0)}, api.FlawCut},
		"with other zeros, one place twice": {[][]api.Point{big, row(0, zero, 2, 5, 1, 5, zero, 0), row(zero, 0, 5, 2, 5, 1, zero, zero)}, 0},
	} {
		told(t, "P25.2: "+name, sample.Polygon(c.rings...), one(c.want, 0, 0))
		if plain := plainPolygon(c.rings); plain.Kind != c.want {
			t.Errorf("P25.2: %s: by the words %v, not %d", name, plain, c.want)
		}
	}
}

// P25.2
func TestMultiPolygon(t *testing.T) {
	polygon := sample.Polygon
	for name, c := range map[string]struct {
		parts []api.Geom
		want  api.Flaw
	}{
		"none":                         {nil, one(0, 0, 0)},
		"empty ones":                   {[]api.Geom{polygon(), polygon()}, one(0, 0, 0)},
		"at a corner":                  {[]api.Geom{polygon(square), polygon(row(4, 4, 5, 4, 4, 5, 4, 4))}, one(0, 0, 0)},
		"a shared stretch":             {[]api.Geom{polygon(square), polygon(row(4, 0, 5, 0, 5, 1, 4, 1, 4, 0))}, one(api.FlawOverlap, 1, 0)},
		"the same twice":               {[]api.Geom{polygon(square), polygon(square)}, one(api.FlawOverlap, 1, 0)},
		"the same turned round":        {[]api.Geom{polygon(square), polygon(row(4, 4, 4, 0, 0, 0, 0, 4, 4, 4))}, one(api.FlawOverlap, 1, 0)},
		"across":                       {[]api.Geom{polygon(square), polygon(row(3, 3, 6, 3, 3, 6, 3, 3))}, one(api.FlawOverlap, 1, 0)},
		"across corners":               {[]api.Geom{polygon(square), polygon(row(2, 2, 4, 0, 6, 2, 4, 4, 2, 2))}, one(api.FlawOverlap, 1, 0)},
		"inside":                       {[]api.Geom{polygon(square), polygon(hole)}, one(api.FlawOverlap, 1, 0)},
		"around":                       {[]api.Geom{polygon(hole), polygon(square)}, one(api.FlawOverlap, 1, 0)},
		"inside, all corners on it":    {[]api.Geom{polygon(square), polygon(diamond)}, one(api.FlawOverlap, 1, 0)},
		"around, all corners on it":    {[]api.Geom{polygon(diamond), polygon(square)}, one(api.FlawOverlap, 1, 0)},
		"in the hole":                  {[]api.Geom{polygon(square, room), polygon(speck)}, one(0, 0, 0)},
		"around by a hole":             {[]api.Geom{polygon(speck), polygon(square, room)}, one(0, 0, 0)},
		"in the hole, corners on it":   {[]api.Geom{polygon(square, room), polygon(row(2, 1, 3, 2, 2, 3, 1, 2, 2, 1))}, one(0, 0, 0)},
		"in the second hole":           {[]api.Geom{polygon(square, row(0.25, 0.25, 0.5, 0.25, 0.25, 0.5, 0.25, 0.25), room), polygon(speck)}, one(0, 0, 0)},
		"beside the hole":              {[]api.Geom{polygon(square, speck), polygon(row(3, 3, 3.5, 3, 3, 3.5, 3, 3))}, one(api.FlawOverlap, 1, 0)},
		"around the hole":              {[]api.Geom{polygon(square, speck), polygon(room)}, one(api.FlawOverlap, 1, 0)},
		"across the hole":              {[]api.Geom{polygon(square, room), polygon(row(2, 2, 3.5, 2, 3.5, 3.5, 2, 2))}, one(api.FlawOverlap, 1, 0)},
		"filling the hole":             {[]api.Geom{polygon(square, room), polygon(room)}, one(api.FlawOverlap, 1, 0)},
		"a hole in a hole":             {[]api.Geom{polygon(square, room), polygon(row(1.25, 1.25, 2.75, 1.25, 2.75, 2.75, 1.25, 2.75, 1.25, 1.25), speck), polygon(row(1.5625, 1.5625, 1.75, 1.5625, 1.5625, 1.75, 1.5625, 1.5625))}, one(0, 0, 0)},
		"the first pair":               {[]api.Geom{polygon(row(9, 9, 10, 9, 9, 10, 9, 9)), polygon(square), polygon(row(3, 3, 6, 3, 3, 6, 3, 3)), polygon(square)}, one(api.FlawOverlap, 2, 1)},
		"past an empty one":            {[]api.Geom{polygon(square), polygon(), polygon(hole)}, one(api.FlawOverlap, 2, 0)},
		"a corner on a side":           {[]api.Geom{polygon(square), polygon(row(4, 2, 5, 1, 5, 3, 4, 2))}, one(0, 0, 0)},
		"a ring around that touches":   {[]api.Geom{polygon(row(-1, -1, 5, -1, 5, 5, -1, 5, -1, -1), square), polygon(diamond)}, one(0, 0, 0)},
		"by one step":                  {[]api.Geom{polygon(row(0, 0, great, great, 0, great, 0, 0)), polygon(row(0, 0, great, 0, great, math.Nextafter(great, 0), 0, 0))}, one(0, 0, 0)},
		"by one step over":             {[]api.Geom{polygon(row(0, 0, great, great, 0, great, 0, 0)), polygon(row(0, 0, great, 0, great, math.Nextafter(great, most), 0, 0))}, one(api.FlawOverlap, 1, 0)},
		"two holes of one at a corner": {[]api.Geom{polygon(row(0, 0, 6, 0, 6, 6, 0, 6, 0, 0), row(1, 1, 3, 1, 3, 3, 1, 3, 1, 1), row(3, 3, 5, 3, 5, 5, 3, 5, 3, 3)), polygon(row(2, 2, 4, 4, 3, 4, 2, 2))}, one(api.FlawOverlap, 1, 0)},
	} {
		g := sample.Group(api.Polygons, c.parts...)
		told(t, "P25.2: "+name, g, c.want)
		if plain := plainPolygons(c.parts); !equal(plain, c.want) {
			t.Errorf("P25.2: %s: by the words %v, not %v", name, plain, c.want)
		}
	}
}

// P25.2: one of the parts has a flaw of its own.
func TestMultiPolygonOfFlaws(t *testing.T) {
	for _, part := range []api.Geom{sample.Polygon(bow), sample.Polygon(square[:3]), sample.Polygon(square, diamond), sample.Polygon(square, square)} {
		for i := range 3 {
			parts := []api.Geom{sample.Polygon(square), sample.Polygon(square), sample.Polygon(square)}
			parts[i] = part
			l, e := valid.All(sample.Group(api.Polygons, parts...))
			if e != api.OK || len(l) != 4 || !equal(l[0], api.Flaw{}) {
				t.Fatalf("P25.2: of squares and %x: %v, %d", part, l, e)
			}
			for k, f := range l[1:] {
				if (f.Kind != 0) != (k == i) || !slices.Equal(f.Path, []int{k}) {
					t.Errorf("P25.2: of squares and %x: %v", part, l)
				}
			}
		}
	}
}

// P25.2
func TestLine(t *testing.T) {
	for _, c := range []struct {
		l    []api.Point
		want api.Flaw
	}{
		{nil, one(0, 0, 0)},
		{row(1, 1), one(api.FlawFew, 0, 0)},
		{row(1, 1, 1, 1), one(api.FlawTwice, 0, 0, at(1, 1))},
		{row(zero, 0, 0, zero, 0, 0), one(api.FlawTwice, 0, 0, at(zero, 0))},
		{row(1, 1, 1, 1, 1, 1, 1, math.Nextafter(1, 2)), one(0, 0, 0)},
		{row(0, 0, 0, least), one(0, 0, 0)},
		{row(0, 0, 1, 1, 0, 1, 1, 0), one(0, 0, 0)},
		{row(0, 0, 1, 0, 0, 0), one(0, 0, 0)},
		{make([]api.Point, 65535), one(api.FlawTwice, 0, 0)},
	} {
		told(t, "P25.2", sample.Line(c.l...), c.want)
		if l, e := valid.All(sample.Group(api.Lines, sample.Line(), sample.Line(c.l...))); len(c.l) < 9 {
			c.want.Path = []int{1}
			if e != api.OK || len(l) != 3 || l[0].Kind != 0 || !equal(l[2], c.want) {
				t.Errorf("P25.2: the second line of two, %x: %v, %d", c.l, l, e)
			}
		}
	}
}

// P25.1, P25.2: points and groups have no flaw of their own.
func TestNoFlaw(t *testing.T) {
	for _, g := range []api.Geom{
		sample.Point(), sample.Point(at(1, 2)), sample.Group(api.Points), sample.Group(api.Points, sample.Point(at(1, 1)), sample.Point(at(1, 1)), sample.Point()),
		sample.Group(api.Lines), sample.Group(api.Lines, sample.Line(square...), sample.Line(square...)),
		sample.Group(api.Collection), sample.Group(api.Collection, sample.Polygon(square), sample.Polygon(square)),
	} {
		l, e := valid.All(g)
		if e != api.OK || len(l) != 1+len(g.Parts) || slices.ContainsFunc(l, func(f api.Flaw) bool { return f.Kind != 0 }) {
			t.Errorf("P25.2: All(%x) = %v, %d", g, l, e)
		}
		if f, e := valid.Check(g); !equal(f, api.Flaw{}) || e != api.OK {
			t.Errorf("P25.4: Check(%x) = %v, %d", g, f, e)
		}
	}
}

// P25.1, P25.4: each geometry by its path, in the order of the text.
func TestPaths(t *testing.T) {
	inner := sample.Group(api.Collection, sample.Point(), sample.Line(at(1, 1)), sample.Group(api.Lines, sample.Line(), sample.Line(row(2, 3, 2, 3)...)))
	g := sample.Group(api.Collection, sample.Polygon(square, hole), inner, sample.Group(api.Polygons, sample.Polygon(square), sample.Polygon(square[:4])), sample.Polygon(square, square), sample.Group(api.Polygons, sample.Polygon(square), sample.Polygon(room)))
	want := []api.Flaw{
		{}, {Path: []int{0}}, {Path: []int{1}}, {Path: []int{1, 0}}, {Kind: api.FlawFew, Path: []int{1, 1}}, {Path: []int{1, 2}}, {Path: []int{1, 2, 0}},
		{Kind: api.FlawTwice, Path: []int{1, 2, 1}, Where: at(2, 3)}, {Path: []int{2}}, {Path: []int{2, 0}}, {Kind: api.FlawOpen, Path: []int{2, 1}, Spot: 3, Where: at(0, 4)},
		{Kind: api.FlawCross, Path: []int{3}, Ring: 1}, {Kind: api.FlawOverlap, Path: []int{4}, Ring: 1}, {Path: []int{4, 0}}, {Path: []int{4, 1}},
	}
	l, e := valid.All(g)
	if e != api.OK || !slices.EqualFunc(l, want, equal) {
		t.Errorf("P25.1: %v, %d, want %v", l, e, want)
	}
	if f, e := valid.Check(g); !equal(f, want[4]) || e != api.OK {
		t.Errorf("P25.4: %v, %d, want %v", f, e, want[4])
	}
	g.Parts = g.Parts[4:]
	if f, e := valid.Check(g); !equal(f, api.Flaw{Kind: api.FlawOverlap, Path: []int{0}, Ring: 1}) || e != api.OK {
		t.Errorf("P25.4: a flaw ahead of sound parts: %v, %d", f, e)
	}
}

// P25.1: no tree, ahead of all else.
func TestNoTree(t *testing.T) {
	loop := make([]api.Geom, 1)
	loop[0] = api.Geom{Kind: api.Collection, Parts: loop}
	costly := sample.Polygon(make([]api.Point, api.MaxRing+1))
	wide := loop
	for range 40 {
		wide = []api.Geom{{Kind: api.Collection, Parts: slices.Concat(wide, wide)}}
	}
	l := []api.Geom{
		{}, {Kind: 9}, {Kind: -1}, sample.Point(at(1, 1), at(1, 1)), sample.Polygon(nil), sample.Polygon(square, nil), {Kind: api.ALine, Parts: []api.Geom{{Kind: api.APoint}}},
		sample.Group(api.Polygons, sample.Polygon(square), sample.Line(square...)), sample.Deep(api.MaxDepth+1, sample.Polygon(square)),
		sample.Line(make([]api.Point, api.MaxPoints)...), sample.Group(api.Collection, sample.Polygon(bow), costly, api.Geom{}), loop[0], wide[0],
	}
	for _, b := range sample.Unfinished() {
		spoilt := slices.Clone(square)
		spoilt[2] = api.Point{X: b}
		l = append(l, sample.Polygon(spoilt), sample.Group(api.Collection, sample.Polygon(bow), costly, sample.Point(api.Point{Y: b})))
	}
	for i, g := range l {
		all, e := valid.All(g)
		if e != api.OK || len(all) != 1 || !equal(all[0], one(api.FlawShape, 0, 0)) {
			t.Errorf("P25.1: no tree %d: %v, %d", i, all, e)
		}
		if f, e := valid.Check(g); e != api.OK || !equal(f, one(api.FlawShape, 0, 0)) {
			t.Errorf("P25.4: no tree %d: %v, %d", i, f, e)
		}
	}
}

// spread gives so many points as polygons' rings of at most that many each.
func spread(n, each int) [][]api.Point {
	var out [][]api.Point
	for ; n > 0; n -= each {
		out = append(out, make([]api.Point, min(n, each)))
	}
	return out
}

// P25.1: ErrCost, of one polygon or one MULTIPOLYGON alone.
func TestCost(t *testing.T) {
	parts := func(n, each int) []api.Geom {
		var out []api.Geom
		for _, r := range spread(n, each) {
			out = append(out, sample.Polygon(r))
		}
		return out
	}
	for _, c := range []struct {
		g    api.Geom
		cost bool
	}{
		{sample.Polygon(spread(512, 512)...), false},
		{sample.Polygon(spread(513, 513)...), true},
		{sample.Polygon(spread(512, 100)...), false},
		{sample.Polygon(spread(513, 100)...), true},
		{sample.Polygon(spread(513, 1)...), true},
		{sample.Group(api.Polygons, parts(512, 512)...), false},
		{sample.Group(api.Polygons, parts(513, 513)...), true},
		{sample.Group(api.Polygons, parts(512, 100)...), false},
		{sample.Group(api.Polygons, parts(513, 100)...), true},
		{sample.Group(api.Polygons, parts(513, 512)...), true},
		{sample.Group(api.Polygons, sample.Polygon(spread(300, 100)...), sample.Polygon(spread(213, 50)...)), true},
		{sample.Group(api.Polygons, sample.Polygon(spread(300, 100)...), sample.Polygon(), sample.Polygon(spread(212, 50)...)), false},
		{sample.Group(api.Collection, parts(5000, 512)...), false},
		{sample.Group(api.Collection, sample.Polygon(bow), sample.Polygon(spread(513, 60)...)), true},
		{sample.Deep(200, sample.Group(api.Polygons, parts(513, 60)...)), true},
		{sample.Deep(200, sample.Group(api.Polygons, parts(512, 60)...)), false},
		{sample.Group(api.Collection, sample.Line(make([]api.Point, 5000)...), sample.Group(api.Lines, sample.Line(make([]api.Point, 5000)...))), false},
		{sample.Polygon(append(slices.Repeat(square[:1], 508), square[1:]...)), false},
		{sample.Polygon(append(slices.Repeat(square[:1], 509), square[1:]...)), true},
	} {
		l, e := valid.All(c.g)
		f, again := valid.Check(c.g)
		if e != again || c.cost && (e != api.ErrCost || len(l) != 0 || !equal(f, api.Flaw{})) || !c.cost && e != api.OK {
			t.Errorf("P25.1: of %d parts and %d rings: %v, %d, %v, %d, ErrCost due: %t", len(c.g.Parts), len(c.g.Rings), l, e, f, again, c.cost)
		}
	}
}

// P25.5
func TestWord(t *testing.T) {
	words := []string{"ok", "shape", "few", "open", "twice", "self", "cross", "outside", "nested", "overlap", "cut"}
	for kind, want := range words {
		if got := valid.Word(kind); got != want {
			t.Errorf("P25.5: Word(%d) = %q, want %q", kind, got, want)
		}
	}
	for _, kind := range []int{-1, 11, 12, 255, math.MaxInt, math.MinInt} {
		if got := valid.Word(kind); got != "" {
			t.Errorf("P25.5: Word(%d) = %q", kind, got)
		}
	}
}

// P25.6
func TestSimple(t *testing.T) {
	for _, c := range []struct {
		l    []api.Point
		want bool
	}{
		{nil, true},
		{[]api.Point{}, true},
		{row(1, 1), true},
		{row(1, 1, 1, 1), true},
		{row(zero, 0, 0, zero, 0, 0), true},
		{row(1, 1, 2, 2), true},
		{row(1, 1, 1, 1, 2, 2, 2, 2), true},
		{row(0, 0, 1, 1, 0, 1, 1, 0), false},
		{row(0, 0, 1, 0, 1, 1, 0, 0), true},
		{row(0, 0, 1, 0, 1, 1, zero, zero), true},
		{row(0, 0, 0, zero, 1, 0, 1, 0, 1, 1, 0, 0, zero, 0), true},
		{row(0, 0, 1, 0, 0, 0), false},
		{row(0, 0, 1, 0, 1, 0, zero, 0), false},
		{row(0, 0, 2, 0, 1, 0), false},
		{row(0, 0, 1, 0, 2, 0), true},
		{row(0, 0, 1, 1, 1, 1, 2, 0), true},
		{row(0, 0, 2, 0, 2, 2, 1, 0), false},
		{row(0, 0, 2, 0, 2, 2, 0, 0, 1, 1), false},
		{row(0, 0, 1, 0, 1, 1, 0, 1, 0, 0, -1, 0), false},
		{row(0, 0, 2, 0, 2, 2, 1, 2, 1, 0, 0, 0), false},
		{row(0, 0, 2, 0, 2, 2, 4, 2, 4, 0, 0, 0), false},
		{square, true},
		{bow, false},
		{slices.Concat(square, square[1:]), false},
		{row(0, 0, great, great, math.Nextafter(great, 0), great, 0, least), true},
		{row(0, 0, great, great, great/2, great/2), false},
		{row(0, 0, most, 0, most, least, 0, least), true},
		{make([]api.Point, api.MaxRing), true},
	} {
		if got, e := valid.Simple(c.l); got != c.want || e != api.OK {
			t.Errorf("P25.6: Simple(%x) = %t, %d, want %t", c.l, got, e, c.want)
		}
		if _, found := plainTangle(c.l); found == c.want {
			t.Errorf("P25.6: %x: by the words %t", c.l, !found)
		}
	}
}

// P25.6
func TestSimpleRefused(t *testing.T) {
	for _, b := range sample.Unfinished() {
		for _, p := range []api.Point{{X: b}, {Y: b}, {X: b, Y: b}} {
			for _, l := range [][]api.Point{{p}, {p, p}, {p, p, p, p}, append(slices.Clone(square), p), append(slices.Clone(bow), p), append([]api.Point{p}, square...)} {
				if got, e := valid.Simple(l); got || e != api.ErrSpot {
					t.Errorf("P25.6: Simple(%x) = %t, %d", l, got, e)
				}
			}
			if got, e := valid.Simple(append(make([]api.Point, api.MaxRing), p)); got || e != api.ErrCost {
				t.Errorf("P25.6: of 513 points, one not finite: %t, %d", got, e)
			}
		}
	}
	for _, n := range []int{api.MaxRing + 1, 70000} {
		if got, e := valid.Simple(make([]api.Point, n)); got || e != api.ErrCost {
			t.Errorf("P25.6: of %d points: %t, %d", n, got, e)
		}
	}
}
