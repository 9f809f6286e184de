package wkt

import "plumb/api"

// noKind is what a word tells that is no kind's.
const noKind = 0

// kindOf gives the kind whose word that is.
func kindOf(word string) int {
	switch word {
	case "POINT":
		return api.APoint
	case "LINESTRING":
		return api.ALine
	case "POLYGON":
		return api.APolygon
	case "MULTIPOINT":
		return api.Points
	case "MULTILINESTRING":
		return api.Lines
	case "MULTIPOLYGON":
		return api.Polygons
	case "GEOMETRYCOLLECTION":
		return api.Collection
	}
	return noKind
}

// partOf gives the kind that all parts of a geometry of the kind home have, where that is one.
func partOf(home int) int {
	switch home {
	case api.Points:
		return api.APoint
	case api.Lines:
		return api.ALine
	}
	return api.APolygon
}

// beginsBody tells whether a token is one with which all begins that stands behind a kind's word.
func beginsBody(t api.Token) bool {
	return t.Kind == api.OpenToken || t.Word == "EMPTY"
}
