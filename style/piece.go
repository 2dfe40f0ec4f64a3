package style

import (
	"platen/api"
	"platen/runes"
)

// The characters that are pieces by themselves.
const (
	hardBlank  = 0xA0
	softHyphen = 0xAD
)

// kindOf is the kind of a piece in which a rune stands.
func kindOf(r int) int {
	switch {
	case runes.Blank(r):
		return api.PcBlank
	case r == hardBlank:
		return api.PcHard
	case r == softHyphen:
		return api.PcSoft
	}
	return api.PcRun
}

// text goes through a text's characters.
func (p *maker) text(n int) bool {
	s := p.styles[n]
	for k, c := range s.node.Chars {
		kind := kindOf(c.Rune)
		if kind == api.PcBlank && p.drops(n, k) {
			continue
		}
		if !p.character(kind, s, c) {
			return false
		}
	}
	return true
}

// character goes to the piece ahead of it, or begins one.
func (p *maker) character(kind int, s style, c api.Char) bool {
	if !p.goesOn(kind, s) && !p.begin(kind, s, c.From, c.To) {
		return false
	}
	last := p.last()
	last.To = c.To
	if kind == api.PcRun {
		last.Run.Chars = append(last.Run.Chars, c)
	}
	return true
}

// goesOn asks whether a character of that kind belongs to the piece ahead of it. Nothing that made no piece can stand between: there is a br beside it, or an end.
func (p *maker) goesOn(kind int, s style) bool {
	last := p.last()
	if last == nil || last.Kind != kind {
		return false
	}
	return kind == api.PcBlank || kind == api.PcRun && s.isOf(last.Run)
}

// begin adds a piece to the last paragraph, in what holds at its first character or its br.
func (p *maker) begin(kind int, s style, from, to int) bool {
	if !p.meter.Hold(1) {
		return p.refused()
	}
	par := &p.pars[len(p.pars)-1]
	par.Pieces = append(par.Pieces, api.Piece{Kind: kind, Run: s.run(), From: from, To: to})
	p.edge = kind == api.PcLine
	return true
}

// last is the last paragraph's last piece.
func (p *maker) last() *api.Piece {
	l := p.pars[len(p.pars)-1].Pieces
	if len(l) == 0 {
		return nil
	}
	return &l[len(l)-1]
}

// drops asks whether no piece comes of a blank. That is found out at the first one of those side by side, since a piece is charged there, and holds for them all.
func (p *maker) drops(n, k int) bool {
	if !p.edge && p.last().Kind != api.PcBlank {
		p.edge = p.isLast(n, k)
	}
	return p.edge
}

// isLast asks whether a text's characters from the k-th on, and all behind them, are blanks up to a br or the paragraph's end.
func (p *maker) isLast(n, k int) bool {
	if !areBlanks(p.nodes[n].Chars[k:]) {
		return false
	}
	for _, x := range p.nodes[n+1:] {
		switch {
		case x.Kind == api.NdLine, x.Kind == api.NdPar:
			return true
		case !areBlanks(x.Chars):
			return false
		}
	}
	return true
}

func areBlanks(l []api.Char) bool {
	for _, c := range l {
		if !runes.Blank(c.Rune) {
			return false
		}
	}
	return true
}
