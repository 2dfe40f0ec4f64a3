package parse

import (
	"platen/api"
	"platen/runes"
)

// text reads a text: a node in a paragraph, elsewhere blanks, of which nothing comes.
func (p *parser) text(t api.Token) bool {
	if inPar>>p.within()&1 == 0 {
		return p.blanks(t.Chars)
	}
	switch {
	case len(p.nodes) == api.MaxNodes:
		return p.wrong(api.ErrParseMany, t.At)
	case !p.meter.Hold(1):
		return p.refused()
	}
	p.nodes = append(p.nodes, api.Node{Kind: api.NdText, Parent: p.parent(), At: t.At, End: t.End, Chars: t.Chars})
	return true
}

func (p *parser) blanks(l []api.Char) bool {
	for _, c := range l {
		if !runes.Blank(c.Rune) {
			return p.wrong(api.ErrParseTag, c.From)
		}
	}
	return true
}
