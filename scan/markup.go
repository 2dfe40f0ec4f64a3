package scan

import (
	"strings"

	"platen/api"
	"platen/runes"
)

// markup cuts texts and tags, one behind the other.
func (c *cutter) markup() bool {
	ok := true
cutting:
	for ok {
		switch c.ahead() {
		case end:
			break cutting
		case '<':
			ok = c.tag()
		default:
			ok = c.characters()
		}
	}
	return ok
}

// tag cuts one tag. Within an opening one the byte ahead says with what to go on: an attribute needs a blank ahead of it, what ends the tag needs none.
func (c *cutter) tag() bool {
	from := c.at
	if !c.step() {
		return false
	}
	if c.ahead() == '/' {
		goto closing
	}
	if !c.opening(from) {
		return false
	}
inside:
	switch b := c.ahead(); {
	case runes.Blank(b):
		goto blank
	case b == '/' || b == '>':
		return c.ending()
	}
	return c.wrong(api.ErrScanByte)
blank:
	if !c.step() {
		return false
	}
	if !letter(c.ahead()) {
		goto inside
	}
	if !c.attribute() {
		return false
	}
	goto inside
closing:
	return c.closing(from)
}

// characters cuts a text.
func (c *cutter) characters() bool {
	from := c.at
	var l []api.Char
	for c.ahead() != end && c.ahead() != '<' {
		x, ok := c.character()
		if !ok {
			return false
		}
		l = append(l, x)
	}
	return c.token(api.Token{Kind: api.TokText, At: from, Chars: l})
}

// opening cuts the name of an opening tag that began at from. The name ends where no letter follows, so its cell is charged ahead of what does.
func (c *cutter) opening(from int) bool {
	name, ok := c.name()
	return ok && c.token(api.Token{Kind: api.TokOpen, At: from, Name: name})
}

func (c *cutter) attribute() bool {
	from := c.at
	name, ok := c.name()
	if !ok || !c.word(`="`, api.ErrScanByte) {
		return false
	}
	value, ok := c.value()
	if !ok || !c.word(`"`, api.ErrScanByte) {
		return false
	}
	return c.token(api.Token{Kind: api.TokAttr, At: from, Name: name, Value: value})
}

// ending cuts the end of an opening tag.
func (c *cutter) ending() bool {
	from, last := c.at, ">"
	empty := c.ahead() == '/'
	if empty {
		last = "/>"
	}
	return c.word(last, api.ErrScanByte) && c.token(api.Token{Kind: api.TokTag, At: from, Empty: empty})
}

// closing cuts a closing tag that began at from, from its slash on.
func (c *cutter) closing(from int) bool {
	if !c.word("/", api.ErrScanByte) {
		return false
	}
	name, ok := c.name()
	return ok && c.word(">", api.ErrScanByte) && c.token(api.Token{Kind: api.TokClose, At: from, Name: name})
}

// name reads the letters ahead.
func (c *cutter) name() (string, bool) {
	from := c.at
	for letter(c.ahead()) {
		if c.at-from == api.MaxToken {
			return "", c.wrong(api.ErrScanLong)
		}
		if !c.step() {
			return "", false
		}
	}
	if c.at == from {
		return "", c.wrong(api.ErrScanByte)
	}
	return strings.Clone(c.text[from:c.at]), true // a piece of the markup would keep all of it
}

func letter(b int) bool { return 'a' <= b && b <= 'z' || 'A' <= b && b <= 'Z' }
