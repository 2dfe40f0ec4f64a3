package font

import (
	"unicode/utf8"

	"platen/api"
	"platen/table"
)

// reader is a font as far as it has been read. The glyph and the pair that are being read join it once they are whole, so the last one there is the one ahead.
type reader struct {
	next          part
	number, bytes int // what has been read of the next part, and by how many bytes
	sum           sum
	font          api.Font
	glyphs, pairs int // how many are said to come
	glyph         api.Glyph
	pair          api.Pair
	table         *table.Table // of the glyphs, for the pairs
}

func newReader() *reader { return &reader{sum: sumOfNone} }

// take reads one byte more, and tells what is wrong at it.
func (r *reader) take(c byte) api.Errno {
	r.number = r.number<<8 | int(c)
	r.bytes++
	if r.next != checkSum { // the sum is not its own
		r.sum = r.sum.with(c)
	}
	if r.bytes < r.next.size() {
		return api.OK
	}
	if e := r.settle(r.number); e != api.OK {
		return e
	}
	r.next = r.behind()
	r.number, r.bytes = 0, 0
	return api.OK
}

// settle puts a whole number where it belongs, if it is as it must be.
func (r *reader) settle(n int) api.Errno {
	right := false
	switch r.next {
	case letterP, letterF, letter1:
		right = n == int(mark[r.next])
	case em:
		r.font.Em = n
		right = n >= 1 && n <= api.MaxEm
	case glyphCount:
		r.glyphs = n
		right = n <= api.MaxGlyphs
	case glyphRune, width, height, depth:
		right = r.settleGlyph(n)
	case pairCount:
		r.pairs = n
		r.table, _ = table.New(r.font) // it can't refuse: each number was held against what it asks
		right = n <= api.MaxPairs
	case leftSide, rightSide, pairKind, ligature, kern:
		right = r.settlePair(n)
	case checkSum:
		if sum(n) != r.sum {
			return api.ErrFontSum
		}
		right = true
	}
	if !right {
		return api.ErrFontForm
	}
	return api.OK
}

func (r *reader) settleGlyph(n int) bool {
	switch r.next {
	case glyphRune:
		r.glyph = api.Glyph{Rune: n}
		return utf8.ValidRune(rune(n)) && n > r.glyphAhead().Rune
	case width:
		r.glyph.Width = n
	case height:
		r.glyph.Height = n
	case depth:
		r.glyph.Depth = n
		r.font.Glyphs = append(r.font.Glyphs, r.glyph)
	}
	return n <= api.MaxUnits
}

func (r *reader) settlePair(n int) bool {
	switch r.next {
	case leftSide:
		r.pair = api.Pair{Left: n}
		return r.has(n) && n >= r.pairAhead().Left
	case rightSide:
		r.pair.Right = n
		return r.has(n) && (r.pair.Left > r.pairAhead().Left || n > r.pairAhead().Right)
	case pairKind:
		r.pair.Is = n == isLigature
		return n == isLigature || n == isKern
	case ligature:
		r.pair.Lig = n
		r.font.Pairs = append(r.font.Pairs, r.pair)
		return r.has(n)
	default: // kern
		r.pair.Kern = n - kernNought
		r.font.Pairs = append(r.font.Pairs, r.pair)
		return r.mayKern()
	}
}

// glyphAhead and pairAhead are below all others where there is none ahead.
func (r *reader) glyphAhead() api.Glyph {
	if len(r.font.Glyphs) == 0 {
		return api.Glyph{Rune: -1}
	}
	return r.font.Glyphs[len(r.font.Glyphs)-1]
}

func (r *reader) pairAhead() api.Pair {
	if len(r.font.Pairs) == 0 {
		return api.Pair{Left: -1}
	}
	return r.font.Pairs[len(r.font.Pairs)-1]
}

func (r *reader) has(n int) bool {
	_, found := r.table.Glyph(n)
	return found
}

func (r *reader) mayKern() bool {
	left, _ := r.table.Glyph(r.pair.Left)
	right, _ := r.table.Glyph(r.pair.Right)
	k := r.pair.Kern
	return k != 0 && k <= api.MaxUnits && k >= -min(left.Width, right.Width)
}

// behind is what stands behind a part that was right.
func (r *reader) behind() part {
	switch r.next {
	case glyphCount, depth:
		if len(r.font.Glyphs) < r.glyphs {
			return glyphRune
		}
		return pairCount
	case pairCount, ligature, kern:
		if len(r.font.Pairs) < r.pairs {
			return leftSide
		}
		return checkSum
	case pairKind:
		if r.pair.Is {
			return ligature
		}
		return kern
	}
	return r.next + 1
}
