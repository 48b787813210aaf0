package rtu

// came is what came on a line, and is not at its end: bytes that belong together.
type came struct {
	bytes []byte // no more than tell whether they are too many
	last  int    // the tick at which some came last
}

// add puts bytes behind those that are there.
func (c *came) add(now int, b []byte) {
	if len(b) == 0 {
		return
	}
	room := maxFrame + 1 - len(c.bytes)
	c.bytes = append(c.bytes, b[:min(len(b), room)]...)
	c.last = now
}

// silence answers for how many ticks nothing came.
func (c *came) silence(now int) int { return now - c.last }

// end tells what came, unless it is nothing or too long, and begins anew. What it tells is kept no more, so it needs no copy.
func (c *came) end() [][]byte {
	whole := c.bytes
	c.bytes = nil
	if len(whole) == 0 || len(whole) > maxFrame {
		return nil
	}
	return [][]byte{whole}
}
