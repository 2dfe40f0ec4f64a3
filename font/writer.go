package font

import "platen/api"

// writer lays numbers into room that is there from the start.
type writer struct {
	bytes []byte
	end   int
	sum   sum
}

func newWriter(f api.Font) *writer {
	// A glyph takes 9 bytes, a pair 10 at most, all else 13.
	room := 13 + 9*len(f.Glyphs) + 10*len(f.Pairs)
	return &writer{bytes: make([]byte, room), sum: sumOfNone}
}

func (w *writer) text() string { return string(w.bytes[:w.end]) }

func (w *writer) layFont(f api.Font) {
	for p := letterP; p <= letter1; p++ {
		w.lay(p, int(mark[p]))
	}
	w.lay(em, f.Em)
	w.lay(glyphCount, len(f.Glyphs))
	for _, g := range f.Glyphs {
		w.lay(glyphRune, g.Rune)
		w.lay(width, g.Width)
		w.lay(height, g.Height)
		w.lay(depth, g.Depth)
	}
	w.lay(pairCount, len(f.Pairs))
	for _, p := range f.Pairs {
		w.layPair(p)
	}
	w.lay(checkSum, int(w.sum))
}

func (w *writer) layPair(p api.Pair) {
	w.lay(leftSide, p.Left)
	w.lay(rightSide, p.Right)
	if p.Is {
		w.lay(pairKind, isLigature)
		w.lay(ligature, p.Lig)
		return
	}
	w.lay(pairKind, isKern)
	w.lay(kern, p.Kern+kernNought)
}

func (w *writer) lay(p part, n int) {
	long := [4]byte{byte(n >> 24), byte(n >> 16), byte(n >> 8), byte(n)}
	short := long[len(long)-p.size():]
	w.end += copy(w.bytes[w.end:], short)
	for _, c := range short {
		w.sum = w.sum.with(c)
	}
}
