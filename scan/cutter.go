package scan

import (
	"platen/api"
	"platen/meter"
)

// cutter is a markup, cut up to a place: the tokens that have ended there, or the fault that ended it. What it does answers whether it may go on.
type cutter struct {
	meter  *meter.Meter
	text   string
	at     int
	tokens []api.Token
	fault  api.Fault
}

// end stands ahead where the markup ends; no byte is as low.
const end = -1

// ahead is the byte that stands next.
func (c *cutter) ahead() int {
	if c.at == len(c.text) {
		return end
	}
	return int(c.text[c.at])
}

// step charges the byte that stands next, and goes on behind it.
func (c *cutter) step() bool {
	if !c.meter.Step(1) {
		return c.refused()
	}
	c.at++
	return true
}

// steps goes on behind so many bytes, one by one.
func (c *cutter) steps(n int) bool {
	for range n {
		if !c.step() {
			return false
		}
	}
	return true
}

// token charges a token that ends here, and keeps it.
func (c *cutter) token(t api.Token) bool {
	if !c.meter.Hold(1) {
		return c.refused()
	}
	t.End = c.at
	c.tokens = append(c.tokens, t)
	return true
}

func (c *cutter) refused() bool {
	c.fault = api.Fault{Kind: c.meter.Refused()}
	return false
}

// wrong tells that what stands next can't stand there. A byte is charged first, and where that is refused, it isn't told.
func (c *cutter) wrong(kind api.Errno) bool {
	at := c.at
	if c.ahead() == end || c.step() {
		c.fault = api.Fault{Kind: kind, At: at}
	}
	return false
}

// word goes on behind w, which must stand next; another byte there is wrong in that kind.
func (c *cutter) word(w string, kind api.Errno) bool {
	for at := range len(w) {
		if c.ahead() != int(w[at]) {
			return c.wrong(kind)
		}
		if !c.step() {
			return false
		}
	}
	return true
}
