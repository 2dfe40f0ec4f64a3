package shape

import (
	"platen/api"
	"platen/fix"
)

// ruler measures a font's units at a size.
type ruler struct {
	size, em int
	scale    func(c *fix.Calc, a, num, den int) int
}

// of asks a Calc of its own, since one that is wrong stays so.
func (r ruler) of(units int) int { return r.scale(fix.New(), r.size, units, r.em) }

// marks are the row's glyphs at a size, measured by that scale.
func (w *row) marks(size int, scale func(c *fix.Calc, a, num, den int) int) []api.Mark {
	if len(w.glyphs) == 0 { // nothing was charged that the font's em could be asked for
		return nil
	}
	r := ruler{size, w.table.Font().Em, scale}
	l := make([]api.Mark, len(w.glyphs))
	for n, g := range w.glyphs {
		l[n] = api.Mark{Rune: g.Rune, Width: r.of(g.Width), Height: r.of(g.Height), Depth: r.of(g.Depth), Kern: r.of(g.kern), From: g.from, To: g.to}
	}
	return l
}
