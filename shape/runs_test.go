package shape_test

import (
	"cmp"
	"math"
	"slices"

	"platen/api"
)

// Fonts and runs, and how they come about.

const point = 65536

// common is the document's F.
func common() api.Font {
	f := api.Font{Em: 1000}
	for _, g := range [][2]int{{'-', 300}, {'a', 500}, {'b', 500}, {'f', 300}, {'i', 250}, {0xFB01, 500}} {
		f.Glyphs = append(f.Glyphs, api.Glyph{Rune: g[0], Width: g[1], Height: 700, Depth: 200})
	}
	f.Pairs = []api.Pair{{Left: 'a', Right: 'b', Kern: -50}, {Left: 'f', Right: 'i', Is: true, Lig: 0xFB01}}
	return f
}

// letters is a font of some letters, each of other sizes, with those pairs: three letters are a ligature, two a kern of 7.
func letters(of string, pairs ...string) api.Font {
	f := api.Font{Em: 100}
	for n, r := range of {
		f.Glyphs = append(f.Glyphs, api.Glyph{Rune: int(r), Width: 50 + n, Height: 70 + 2*n, Depth: 20 + 3*n})
	}
	for _, s := range pairs {
		p := api.Pair{Left: int(s[0]), Right: int(s[1]), Kern: 7}
		if len(s) == 3 {
			p.Kern, p.Is, p.Lig = 0, true, int(s[2])
		}
		f.Pairs = append(f.Pairs, p)
	}
	slices.SortFunc(f.Pairs, func(a, b api.Pair) int { return cmp.Or(a.Left-b.Left, a.Right-b.Right) })
	return f
}

// run has the runes of a text, from that place on, at 10 points.
func run(s string, at int) api.Run {
	r := api.Run{Font: "F", Size: 10 * point}
	for n, c := range s {
		r.Chars = append(r.Chars, api.Char{Rune: int(c), From: at + n, To: at + n + len(string(c))})
	}
	return r
}

// numbers are the same ones each time.
type numbers struct{ state uint64 }

func (r *numbers) below(n int) int {
	r.state = r.state*6364136223846793005 + 1442695040888963407
	return int(r.state>>33) % n
}

func of[T any](r *numbers, l ...T) T { return l[r.below(len(l))] }

// font is one of a few glyphs, with some of all pairs that there may be: of so many tenths of them.
func (r *numbers) font(tenths int) api.Font {
	f := api.Font{Em: of(r, 1, 3, 1000, 1000, 2048, 16384)}
	for _, at := range []int{0, 'a', 'b', 0xD7FF, 0xE000, 0xFB01, 0xFFFD, 0x10000, 0x10FFFF} {
		if r.below(3) > 0 {
			size := func() int { return of(r, 0, 1, 7, 300, 500, 16384) }
			f.Glyphs = append(f.Glyphs, api.Glyph{Rune: at, Width: size(), Height: size(), Depth: size()})
		}
	}
	for _, a := range f.Glyphs {
		for _, b := range f.Glyphs {
			if r.below(10) < tenths {
				f.Pairs = append(f.Pairs, r.beside(f, a, b))
			}
		}
	}
	return f
}

// beside is a pair of two glyphs that may be: a ligature, or a kern.
func (r *numbers) beside(f api.Font, a, b api.Glyph) api.Pair {
	p := api.Pair{Left: a.Rune, Right: b.Rune}
	if r.below(2) == 0 {
		p.Is, p.Lig = true, f.Glyphs[r.below(len(f.Glyphs))].Rune
		return p
	}
	p.Kern = of(r, -min(a.Width, b.Width), -1, 1, 50, 16384)
	if p.Kern == 0 || p.Kern < -min(a.Width, b.Width) {
		p.Kern = 1
	}
	return p
}

// chars are some of a font's, most often, with places that rise.
func (r *numbers) chars(f api.Font, most int) []api.Char {
	var l []api.Char
	at := 0
	for range r.below(most + 1) {
		c := api.Char{Rune: of(r, notRunes()...)}
		if len(f.Glyphs) > 0 && r.below(40) > 0 {
			c.Rune = f.Glyphs[r.below(len(f.Glyphs))].Rune
		}
		c.From = at + r.below(2)
		c.To = c.From + 1 + r.below(6)
		at = c.To
		l = append(l, c)
	}
	return l
}

// elsewhere has any places.
func (r *numbers) elsewhere(l []api.Char) []api.Char {
	place := func() int {
		return of(r, 0, 1, -1, 7, math.MaxInt, math.MinInt, r.below(1<<20), -r.below(1<<20))
	}
	l = slices.Clone(l)
	for n := range l {
		l[n].From, l[n].To = place(), place()
	}
	return l
}

// notRunes are numbers that are no rune; some of them in 32, 21 or 16 bits are one that fonts here have.
func notRunes() []int {
	return []int{
		-1, -97, -0xFFFD, 0xD800, 0xDBFF, 0xDFFF, 0x110000, 1 << 31, 1<<31 + 'a', 1 << 32, 1<<32 + 'a', 1<<32 + 0xFFFD, 1<<32 - 1,
		1<<62 + 'b', 1 << 62, math.MinInt, math.MinInt + 'a', math.MinInt + 0xFFFD, math.MaxInt, 1<<21 + 'a', 1<<48 + 0xFB01,
	}
}

// sizes are lengths at both ends of what they may be, at halves, and numbers that are none.
func sizes() []int {
	return []int{
		0, 1, -1, 2, 3, 5, 499, 500, 501, -500, point, 10 * point, -10 * point, 1024 * point, 655361, -655359,
		1<<32 + 1, 1 << 45, 1<<46 - 1, 1 << 46, 1<<46 + 1, -1 << 46, -1<<46 - 1, 1<<46 - 1<<30, 1 << 47, 1 << 62, math.MaxInt, math.MinInt, math.MinInt + 1,
		1 << 46 / 300 * 100, 1<<46/16384 + 1, -1<<46/16384 - 1, 1 << 46 / 16384,
	}
}

// whole is a font with as many glyphs and pairs as there may be; none of the ligatures is of a letter beside which it makes another.
func whole() api.Font {
	f := api.Font{Em: 16384}
	for n := range 1024 {
		f.Glyphs = append(f.Glyphs, api.Glyph{Rune: 3 * n, Width: 1 + n, Height: 2 * n, Depth: 3 * n})
	}
	for n := range 1024 {
		for k := range 4 {
			p := api.Pair{Left: 3 * n, Right: 3 * (k + n%5), Kern: 1 + n}
			if k == n%3 {
				p.Kern, p.Is, p.Lig = 0, true, 3*(1023-n)
			}
			f.Pairs = append(f.Pairs, p)
		}
	}
	return f
}
