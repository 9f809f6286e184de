package print

// sink is where a printer's text goes, piece by piece.
type sink interface {
	put(text string)
}

// keeper is a sink that keeps the bytes.
type keeper struct {
	bytes []byte
}

func (k *keeper) put(text string) {
	k.bytes = append(k.bytes, text...)
}

// counter is a sink that counts the bytes, so that none need be kept.
type counter struct {
	bytes int
}

func (c *counter) put(text string) {
	c.bytes += len(text)
}
