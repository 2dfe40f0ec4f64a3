package shape

import (
	"strings"

	"platen/api"
	"platen/meter"
	"platen/table"
)

// row is a run's glyphs, as far as it has been gone through; or the fault that ended it. What it does answers whether it may go on.
type row struct {
	meter  *meter.Meter
	table  *table.Table
	glyphs []glyph
	fault  api.Fault
}

// glyph is one of a row, with the kern ahead of it (both in the font's units), and the bytes that it stands for.
type glyph struct {
	api.Glyph
	kern, from, to int
}

// text writes characters as a string, one rune for each: another one in the place of a number that is none.
func text(l []api.Char) string {
	var b strings.Builder
	for _, c := range l {
		b.WriteRune(rune(c.Rune))
	}
	return b.String()
}

// characters puts a run's glyphs into the row. What is a ligature there is made one ahead of the next character: that stands beside what came of it.
func (w *row) characters(l []api.Char) bool {
	n := 0
	for _, r := range text(l) {
		if !w.character(l[n], int(r)) || !w.ligatures() {
			return false
		}
		n++
	}
	return true
}

// character puts the glyph of a character, which the text has as r, at the row's end. Where r is another number the character's is no rune, so no font has a glyph of it.
func (w *row) character(c api.Char, r int) bool {
	if !w.step() {
		return false
	}
	g, found := w.table.Glyph(r)
	if !found || r != c.Rune {
		return w.wrong(api.ErrShapeGlyph, c.From)
	}
	w.glyphs = append(w.glyphs, glyph{Glyph: g, from: c.From, to: c.To})
	return true
}

// ligatures makes one of the last two glyphs, as long as they are a pair that is a ligature.
func (w *row) ligatures() bool {
	for last := len(w.glyphs) - 1; last > 0; last-- {
		left, right := w.glyphs[last-1], w.glyphs[last]
		p, _ := w.table.Pair(left.Rune, right.Rune)
		if !p.Is {
			return true
		}
		if !w.step() {
			return false
		}
		g, _ := w.table.Glyph(p.Lig) // a table has those of all its ligatures
		w.glyphs = append(w.glyphs[:last-1], glyph{Glyph: g, from: left.from, to: right.to})
	}
	return true
}

// kerns finds that of each two glyphs side by side.
func (w *row) kerns() bool {
	for n := 1; n < len(w.glyphs); n++ {
		if !w.step() {
			return false
		}
		p, _ := w.table.Pair(w.glyphs[n-1].Rune, w.glyphs[n].Rune)
		w.glyphs[n].kern = p.Kern
	}
	return true
}

// cells takes one for each glyph, one by one: of a row without glyphs nothing is asked, not even of a meter that has refused, which would refuse to hold 0.
func (w *row) cells() bool {
	for range w.glyphs {
		if !w.meter.Hold(1) {
			return w.refused()
		}
	}
	return true
}

func (w *row) step() bool { return w.meter.Step(1) || w.refused() }

func (w *row) wrong(kind api.Errno, at int) bool {
	w.fault = api.Fault{Kind: kind, At: at}
	return false
}

func (w *row) refused() bool { return w.wrong(w.meter.Refused(), 0) }
