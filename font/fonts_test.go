package font_test

import (
	"math"
	"slices"

	"platen/api"
)

// Fonts to write and to read.

// numbers are the same ones each time.
type numbers struct{ state uint64 }

func (r *numbers) below(n int) int {
	r.state = r.state*6364136223846793005 + 1442695040888963407
	return int(r.state>>33) % n
}

func (r *numbers) of(l ...int) int { return l[r.below(len(l))] }

// bare and small are the chapter's.
func bare() api.Font { return api.Font{Em: 1000} }

func small() api.Font {
	return api.Font{
		Em:     1,
		Glyphs: []api.Glyph{{Rune: 97, Width: 2, Height: 3, Depth: 4}},
		Pairs:  []api.Pair{{Left: 97, Right: 97, Kern: -2}},
	}
}

// mixed has both kinds of pairs, two of one Left, and runes of one byte to four.
func mixed() api.Font {
	return api.Font{
		Em: 1000,
		Glyphs: []api.Glyph{
			{Rune: 97, Width: 500, Height: 700, Depth: 200},
			{Rune: 233, Width: 400, Height: 710},
			{Rune: 0xFB01, Width: 300, Height: 720, Depth: 9},
			{Rune: 0x1F600, Width: 16384, Height: 16384, Depth: 16384},
		},
		Pairs: []api.Pair{
			{Left: 97, Right: 97, Kern: 5},
			{Left: 97, Right: 233, Kern: -400},
			{Left: 233, Right: 97, Is: true, Lig: 0xFB01},
			{Left: 0x1F600, Right: 0x1F600, Kern: -16384},
		},
	}
}

// ends has each number at one of its ends.
func ends() api.Font {
	return api.Font{
		Em: 16384,
		Glyphs: []api.Glyph{
			{},
			{Rune: 0xD7FF, Width: 16384},
			{Rune: 0xE000, Height: 16384},
			{Rune: 0x10FFFF, Width: 16384, Depth: 16384},
		},
		Pairs: []api.Pair{
			{Left: 0, Right: 0, Is: true},
			{Left: 0, Right: 0xE000, Kern: 1},
			{Left: 0xD7FF, Right: 0x10FFFF, Kern: -16384},
			{Left: 0x10FFFF, Right: 0, Kern: 16384},
			{Left: 0x10FFFF, Right: 0xD7FF, Kern: -1},
			{Left: 0x10FFFF, Right: 0x10FFFF, Is: true, Lig: 0x10FFFF},
		},
	}
}

// whole is a font with as many glyphs and pairs as there may be.
func whole() api.Font {
	f := api.Font{Em: api.MaxEm}
	for n := range api.MaxGlyphs {
		at := 100 * n
		if n >= 500 {
			at = 0xE000 + 1000*n
		}
		f.Glyphs = append(f.Glyphs, api.Glyph{Rune: at, Width: 1 + n, Height: 16 * n, Depth: n})
	}
	for n := range api.MaxPairs {
		p := api.Pair{Left: f.Glyphs[n/4].Rune, Right: f.Glyphs[100+n%4].Rune, Kern: n + 1}
		if n%5 == 0 {
			p.Is, p.Lig, p.Kern = true, f.Glyphs[n%1024].Rune, 0
		}
		f.Pairs = append(f.Pairs, p)
	}
	return f
}

func fonts() []api.Font { return []api.Font{bare(), small(), mixed(), ends()} }

// font is one that may be, with runes and sizes at their edges, and some of all pairs that there may be.
func (r *numbers) font() api.Font {
	f := api.Font{Em: r.of(1, 255, 256, 1000, 16384)}
	for _, at := range []int{0, 1, 97, 98, 255, 256, 0xD7FF, 0xE000, 0xFFFF, 0x10000, 0x10FFFF} {
		if r.below(4) == 0 {
			f.Glyphs = append(f.Glyphs, api.Glyph{Rune: at, Width: r.size(), Height: r.size(), Depth: r.size()})
		}
	}
	for _, a := range f.Glyphs {
		for _, b := range f.Glyphs {
			if r.below(3) == 0 {
				f.Pairs = append(f.Pairs, r.beside(f, a, b))
			}
		}
	}
	return f
}

func (r *numbers) size() int { return r.of(0, 1, 255, 256, 300, 16383, 16384) }

// beside is a pair of two glyphs: a ligature, or a kern at one of its ends.
func (r *numbers) beside(f api.Font, a, b api.Glyph) api.Pair {
	p := api.Pair{Left: a.Rune, Right: b.Rune}
	if r.below(3) == 0 {
		p.Is, p.Lig = true, f.Glyphs[r.below(len(f.Glyphs))].Rune
		return p
	}
	least := -min(a.Width, b.Width)
	if p.Kern = r.of(least, least+1, -1, 1, 16384); p.Kern == 0 || p.Kern < least {
		p.Kern = 1
	}
	return p
}

// edges are numbers near the ends of an int, and at both sides of what a font's numbers may be.
func edges() []int {
	return []int{
		math.MinInt, math.MinInt + 1, -1 << 62, -1 << 32, -1 << 24, -65536, -32768, -16385, -16384, -1,
		0, 1, 2, 97, 98, 255, 256, 0xD7FF, 0xD800, 0xDFFF, 0xE000, 16383, 16384, 16385, 32768, 65535, 65536, 0x10FFFF, 0x110000,
		1 << 24, 1<<24 + 97, 1 << 32, 1<<32 + 97, 1 << 62, math.MaxInt - 1, math.MaxInt,
	}
}

// turn makes one number of a font another one, or changes the order of its lists.
func (r *numbers) turn(f *api.Font) {
	l := edges()
	at := l[r.below(len(l))]
	g, p := r.below(len(f.Glyphs)+1)-1, r.below(len(f.Pairs)+1)-1
	switch {
	case r.below(12) == 0:
		f.Em = at
	case g >= 0 && r.below(3) == 0:
		*one(r, &f.Glyphs[g].Rune, &f.Glyphs[g].Width, &f.Glyphs[g].Height, &f.Glyphs[g].Depth) = at
	case p >= 0 && r.below(3) == 0:
		f.Pairs[p].Is = !f.Pairs[p].Is
	case p >= 0 && r.below(2) == 0:
		*one(r, &f.Pairs[p].Left, &f.Pairs[p].Right, &f.Pairs[p].Lig, &f.Pairs[p].Kern) = at
	case p > 0:
		f.Pairs[p], f.Pairs[p-1] = f.Pairs[p-1], f.Pairs[p]
	case g > 0:
		f.Glyphs[g], f.Glyphs[g-1] = f.Glyphs[g-1], f.Glyphs[g]
	}
}

func one(r *numbers, l ...*int) *int { return l[r.below(len(l))] }

func copied(f api.Font) api.Font {
	return api.Font{Em: f.Em, Glyphs: slices.Clone(f.Glyphs), Pairs: slices.Clone(f.Pairs)}
}

// scrawl writes over all that a font's lists have room for.
func scrawl(f api.Font) {
	for n := range f.Glyphs[:cap(f.Glyphs)] {
		f.Glyphs[:cap(f.Glyphs)][n] = api.Glyph{Rune: -9, Width: -9, Height: -9, Depth: -9}
	}
	for n := range f.Pairs[:cap(f.Pairs)] {
		f.Pairs[:cap(f.Pairs)][n] = api.Pair{Left: -9, Right: -9, Is: true, Lig: -9, Kern: -9}
	}
}
