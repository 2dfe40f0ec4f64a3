package table_test

import (
	"math"
	"slices"
	"testing"

	"platen/api"
	"platen/table"
)

// The model says what New answers, from the chapter's list, and seeks what stands in a font by going through it.

func verdict(f api.Font) api.Errno {
	switch {
	case f.Em <= 0 || f.Em > 16384:
		return 1
	case len(f.Glyphs) > 1024 || len(f.Pairs) > 4096:
		return 50
	case slices.ContainsFunc(f.Glyphs, wrongGlyph) || !slices.IsSortedFunc(f.Glyphs, riseGlyphs):
		return 51
	case slices.ContainsFunc(f.Pairs, listed(f).wrongPair) || !slices.IsSortedFunc(f.Pairs, risePairs):
		return 52
	}
	return 0
}

func wrongGlyph(g api.Glyph) bool {
	r := g.Rune
	isRune := 0 <= r && r < 0xD800 || 0xDFFF < r && r <= 0x10FFFF
	return !isRune || min(g.Width, g.Height, g.Depth) < 0 || max(g.Width, g.Height, g.Depth) > 16384
}

// riseGlyphs and risePairs hold one behind against one ahead: what is not above that is out of order, also if it is the same.
func riseGlyphs(behind, ahead api.Glyph) int {
	if behind.Rune > ahead.Rune {
		return 1
	}
	return -1
}

func risePairs(behind, ahead api.Pair) int {
	if behind.Left > ahead.Left || behind.Left == ahead.Left && behind.Right > ahead.Right {
		return 1
	}
	return -1
}

// listed is a font that is asked by going through it.
type listed api.Font

func (f listed) glyph(r int) (api.Glyph, bool) {
	for _, g := range f.Glyphs {
		if g.Rune == r {
			return g, true
		}
	}
	return api.Glyph{}, false
}

func (f listed) pair(left, right int) (api.Pair, bool) {
	for _, p := range f.Pairs {
		if p.Left == left && p.Right == right {
			return p, true
		}
	}
	return api.Pair{}, false
}

func (f listed) wrongPair(p api.Pair) bool {
	a, isA := f.glyph(p.Left)
	b, isB := f.glyph(p.Right)
	_, isLig := f.glyph(p.Lig)
	switch {
	case !isA || !isB:
		return true
	case p.Is:
		return !isLig || p.Kern != 0
	case p.Lig != 0 || p.Kern == 0 || p.Kern > 16384:
		return true
	}
	return p.Kern < -a.Width || p.Kern < -b.Width
}

// numbers are the same ones each time.
type numbers struct{ state uint64 }

func (r *numbers) below(n int) int {
	r.state = r.state*6364136223846793005 + 1442695040888963407
	return int(r.state>>33) % n
}

func (r *numbers) of(l []int) int { return l[r.below(len(l))] }

// edges are numbers near the ends of an int, and at both sides of what a font's numbers may be.
func edges() []int {
	return []int{
		math.MinInt, math.MinInt + 1, -1 << 62, -1 << 32, -1 << 31, -16385, -16384, -1,
		0, 1, 2, 97, 98, 0xD7FF, 0xD800, 0xDBFF, 0xDFFF, 0xE000, 16383, 16384, 16385, 1 << 16, 0x10FFFF, 0x110000,
		1<<31 + 97, 1 << 32, 1<<32 + 97, 1 << 62, math.MaxInt - 1, math.MaxInt,
	}
}

// small is a font with runes and sizes at their edges, and some of all pairs that there may be.
func small(r *numbers) api.Font {
	f := api.Font{Em: r.of([]int{1, 1000, 16384})}
	for _, at := range []int{0, 1, 97, 98, 0xD7FF, 0xE000, 0xFB01, 0xFFFD, 0x10000, 0x10FFFF} {
		if r.below(3) > 0 {
			sizes := []int{0, 1, 7, 300, 16383, 16384}
			f.Glyphs = append(f.Glyphs, api.Glyph{Rune: at, Width: r.of(sizes), Height: r.of(sizes), Depth: r.of(sizes)})
		}
	}
	for _, a := range f.Glyphs {
		for _, b := range f.Glyphs {
			if r.below(3) == 0 {
				f.Pairs = append(f.Pairs, beside(r, f, a, b))
			}
		}
	}
	return f
}

// beside is a pair of two glyphs that may be: a ligature, or a kern at one of its ends.
func beside(r *numbers, f api.Font, a, b api.Glyph) api.Pair {
	p := api.Pair{Left: a.Rune, Right: b.Rune}
	if r.below(3) == 0 {
		p.Is, p.Lig = true, f.Glyphs[r.below(len(f.Glyphs))].Rune
		return p
	}
	least := -min(a.Width, b.Width)
	p.Kern = r.of([]int{least, least + 1, -1, 1, 16384})
	if p.Kern == 0 || p.Kern < least {
		p.Kern = 1
	}
	return p
}

// turn makes one number of a font another one, or changes what stands in its lists.
func turn(r *numbers, f *api.Font) {
	at := r.of(edges())
	switch g, p := r.below(len(f.Glyphs)+1)-1, r.below(len(f.Pairs)+1)-1; r.below(12) {
	case 0:
		f.Em = at
	case 1, 2, 3:
		if g >= 0 {
			*r.one(&f.Glyphs[g].Rune, &f.Glyphs[g].Width, &f.Glyphs[g].Height, &f.Glyphs[g].Depth) = at
		}
	case 4, 5, 6, 7:
		if p >= 0 {
			*r.one(&f.Pairs[p].Left, &f.Pairs[p].Right, &f.Pairs[p].Lig, &f.Pairs[p].Kern) = at
		}
	case 8:
		if p >= 0 {
			f.Pairs[p].Is = !f.Pairs[p].Is
		}
	case 9:
		if g > 0 {
			f.Glyphs[g], f.Glyphs[g-1] = f.Glyphs[g-1], f.Glyphs[g]
		}
	case 10:
		if p > 0 {
			f.Pairs[p], f.Pairs[p-1] = f.Pairs[p-1], f.Pairs[p]
		}
	case 11:
		if p >= 0 {
			f.Pairs = slices.Insert(f.Pairs, p, f.Pairs[p])
		}
	}
}

func (r *numbers) one(l ...*int) *int { return l[r.below(len(l))] }

// whole is a font with as many glyphs and pairs as there may be.
func whole() api.Font {
	r := &numbers{state: 7}
	f := api.Font{Em: api.MaxEm}
	for n := range api.MaxGlyphs {
		f.Glyphs = append(f.Glyphs, api.Glyph{Rune: 3 * n, Width: 1 + n, Height: 2 * n, Depth: 3 * n})
	}
	for n := range api.MaxPairs {
		f.Pairs = append(f.Pairs, beside(r, f, f.Glyphs[n/4], f.Glyphs[n%4*(1+n/8%300)]))
	}
	return f
}

func copied(f api.Font) api.Font {
	return api.Font{Em: f.Em, Glyphs: slices.Clone(f.Glyphs), Pairs: slices.Clone(f.Pairs)}
}

func same(f, g api.Font) bool {
	return f.Em == g.Em && slices.Equal(f.Glyphs, g.Glyphs) && slices.Equal(f.Pairs, g.Pairs)
}

func open(t *testing.T, f api.Font) *table.Table {
	t.Helper()
	m, e := table.New(f)
	if m == nil || e != api.OK {
		t.Fatalf("New: %v, %d", m != nil, e)
	}
	return m
}

// answers holds what New answers against the number that it must be.
func answers(t *testing.T, what string, f api.Font, want api.Errno) {
	t.Helper()
	if m, e := table.New(f); e != want || (m != nil) != (want == api.OK) {
		t.Errorf("New, %s: a table: %v, %d, want %d", what, m != nil, e, want)
	}
}

// tells holds all that a table says of a font's own glyphs and pairs against it.
func tells(t *testing.T, m *table.Table, f api.Font) {
	t.Helper()
	if l := slices.Collect(m.All()); !slices.Equal(l, f.Glyphs) {
		t.Errorf("All: %v, want %v", l, f.Glyphs)
	}
	if g := m.Font(); !same(g, f) {
		t.Errorf("Font: %v, want %v", g, f)
	}
	for _, g := range f.Glyphs {
		if h, found := m.Glyph(g.Rune); h != g || !found {
			t.Errorf("Glyph(%x): %v, %v, want %v", g.Rune, h, found, g)
		}
	}
	for _, p := range f.Pairs {
		if q, found := m.Pair(p.Left, p.Right); q != p || !found {
			t.Errorf("Pair(%x, %x): %v, %v, want %v", p.Left, p.Right, q, found, p)
		}
	}
}
