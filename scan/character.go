package scan

import (
	"unicode/utf8"

	"platen/api"
	"platen/runes"
)

// entities are those that have names, no two of which begin with one letter.
var entities = [6]struct {
	rune int
	text string
}{
	{'<', "&lt;"},
	{'>', "&gt;"},
	{'&', "&amp;"},
	{'"', "&quot;"},
	{0xAD, "&shy;"},
	{0xA0, "&nbsp;"},
}

// maxDigits is how many digits an entity's number may have.
const maxDigits = 6

// value reads what stands up to the mark that ends an attribute.
func (c *cutter) value() (string, bool) {
	var v []byte
reading:
	for n := 0; ; n++ {
		switch b := c.ahead(); {
		case b == '"':
			break reading
		case b != end && n == api.MaxToken:
			return "", c.wrong(api.ErrScanLong)
		case b == end || b == '<':
			return "", c.wrong(api.ErrScanByte)
		}
		x, ok := c.character()
		if !ok {
			return "", false
		}
		v = utf8.AppendRune(v, rune(x.Rune))
	}
	return string(v), true
}

// character reads the character ahead, which is no <.
func (c *cutter) character() (api.Char, bool) {
	from := c.at
	r, ok := 0, false
	if c.ahead() == '&' {
		r, ok = c.entity()
	} else {
		r, ok = c.plain()
	}
	return api.Char{Rune: r, From: from, To: c.at}, ok
}

// plain reads a rune as it is. It looks no farther than a rune's bytes can reach, whatever stands behind.
func (c *cutter) plain() (int, bool) {
	near := c.text[c.at:min(c.at+utf8.UTFMax, len(c.text))]
	first, _ := runes.Cut(near, 1)
	if first == "" {
		return 0, c.steps(runes.Check(near).At) && c.wrong(api.ErrRunesByte)
	}
	r, _ := utf8.DecodeRuneInString(first)
	return int(r), c.steps(len(first))
}

func (c *cutter) entity() (int, bool) {
	if !c.step() {
		return 0, false
	}
	for _, e := range entities {
		if c.ahead() == int(e.text[1]) {
			return e.rune, c.word(e.text[1:], api.ErrScanEntity)
		}
	}
	if !c.word("#x", api.ErrScanEntity) {
		return 0, false
	}
	return c.number()
}

// number reads an entity's digits, and what ends it. The last digit that there may be must make a rune; one ahead of it makes one, or can still become one.
func (c *cutter) number() (int, bool) {
	n := 0
	for digits := 0; ; digits++ {
		d := digit(c.ahead())
		switch {
		case c.ahead() == ';' && digits > 0 && runes.Width(n) > 0:
			return n, c.step()
		case d < 0, digits == maxDigits, digits == maxDigits-1 && runes.Width(n<<4|d) == 0:
			return 0, c.wrong(api.ErrScanEntity)
		}
		if !c.step() {
			return 0, false
		}
		n = n<<4 | d
	}
}

// digit is what a digit to the base 16 counts; -1: it is none.
func digit(b int) int {
	switch {
	case '0' <= b && b <= '9':
		return b - '0'
	case 'a' <= b && b <= 'f':
		return b - 'a' + 10
	case 'A' <= b && b <= 'F':
		return b - 'A' + 10
	}
	return -1
}
