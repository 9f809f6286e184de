package codec

import (
	"plumb/api"
	"plumb/octet"
)

// format is how geometries are read and written.
type format struct {
	read  func(s []byte, maxDepth int) (api.Geom, error)
	write func(g api.Geom) ([]byte, error)
}

// formatOf gives the format of a number, or the error of one that has none.
func formatOf(number int) (format, error) {
	switch number {
	case api.AsText:
		return inMode(api.Shortest), nil
	case api.AsHex:
		return inMode(api.HexFloat), nil
	case api.AsBig, api.AsLittle:
		return inOrder(number), nil
	case api.AsDigits:
		return format{read: readDigits, write: writeDigits}, nil
	}
	return format{}, api.Wrap(0, api.ErrFormat)
}

// inMode gives the format of texts whose numbers are written in a mode; they are read in any.
func inMode(mode int) format {
	return format{
		read:  readText,
		write: func(g api.Geom) ([]byte, error) { return PrintWKT(g, mode) },
	}
}

// inOrder gives the format of bytes all of whose geometries are in one order.
func inOrder(number int) format {
	return format{
		read: func(s []byte, maxDepth int) (api.Geom, error) {
			g, err := readBytes(s, maxDepth)
			if err != nil {
				return api.Geom{}, err
			}
			// What is no geometry at all is told ahead of one in the other order.
			if err := otherOrder(g, s, firstBytes[number]); err != nil {
				return api.Geom{}, err
			}
			return g, nil
		},
		write: func(g api.Geom) ([]byte, error) { return PrintWKB(g, number == api.AsLittle) },
	}
}

// readText reads a text of at most as many bytes as a text may have.
func readText(s []byte, maxDepth int) (api.Geom, error) {
	return ParseWKT(s, maxDepth, api.MaxText)
}

// readBytes reads bytes, as many likewise.
func readBytes(b []byte, maxDepth int) (api.Geom, error) {
	return ParseWKB(b, maxDepth, api.MaxText)
}

// readDigits reads the hex digits of bytes: how many these may be is told of the bytes, not of the digits.
func readDigits(s []byte, maxDepth int) (api.Geom, error) {
	b, err := octet.Unhex(string(s))
	if err != nil {
		return api.Geom{}, err
	}
	return readBytes(b, maxDepth)
}

// writeDigits writes the hex digits of a tree's bytes.
func writeDigits(g api.Geom) ([]byte, error) {
	b, err := PrintWKB(g, true)
	return []byte(octet.Hex(b)), err
}
