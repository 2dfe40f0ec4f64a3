package table

import (
	"cmp"

	"platen/api"
	"platen/runes"
)

// What may be a font's.

func areGlyphs(l []api.Glyph) bool {
	ahead := -1 // below all runes
	for _, g := range l {
		if runes.Width(g.Rune) == 0 || g.Rune <= ahead || !areUnits(g.Width, g.Height, g.Depth) {
			return false
		}
		ahead = g.Rune
	}
	return true
}

func areUnits(sizes ...int) bool {
	for _, n := range sizes {
		if n < 0 || n > api.MaxUnits {
			return false
		}
	}
	return true
}

// take puts the pairs into a table that has its glyphs, up to the first one that may not be.
func (t *Table) take(l []api.Pair) bool {
	for n, p := range l {
		if !t.joins(p) || n > 0 && order(l[n-1], p) >= 0 {
			return false
		}
		t.pairs[sides{p.Left, p.Right}] = p
	}
	return true
}

// joins tells whether a pair is one of the table's glyphs, by itself: wherever it stands.
func (t *Table) joins(p api.Pair) bool {
	left, isLeft := t.Glyph(p.Left)
	right, isRight := t.Glyph(p.Right)
	if !isLeft || !isRight {
		return false
	}
	if p.Is {
		_, isLig := t.Glyph(p.Lig)
		return isLig && p.Kern == 0
	}
	return p.Lig == 0 && p.Kern != 0 && -min(left.Width, right.Width) <= p.Kern && p.Kern <= api.MaxUnits
}

func order(a, b api.Pair) int {
	return cmp.Or(cmp.Compare(a.Left, b.Left), cmp.Compare(a.Right, b.Right))
}
