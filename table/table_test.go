package table_test

import (
	"math"
	"slices"
	"strconv"
	"testing"

	"platen/api"
	"platen/table"
)

// example is the chapter's F.
func example() api.Font {
	return api.Font{
		Em: 1000,
		Glyphs: []api.Glyph{
			{Rune: 97, Width: 500, Height: 700, Depth: 200},
			{Rune: 98, Width: 400, Height: 700},
			{Rune: 102, Width: 300, Height: 700},
			{Rune: 0xFB01, Width: 500, Height: 700},
		},
		Pairs: []api.Pair{
			{Left: 97, Right: 98, Kern: -50},
			{Left: 102, Right: 97, Is: true, Lig: 0xFB01},
		},
	}
}

// changed is F with something done to it.
func changed(do func(f *api.Font)) api.Font {
	f := example()
	do(&f)
	return f
}

// The chapter's examples.
func TestExamples(t *testing.T) {
	m := open(t, example())
	tells(t, m, example())
	for _, r := range []int{99, -5} {
		if g, found := m.Glyph(r); found || g != (api.Glyph{}) {
			t.Errorf("Glyph(%d): %v, %v", r, g, found)
		}
	}
	if p, found := m.Pair(98, 97); found || p != (api.Pair{}) {
		t.Errorf("Pair(98, 97): %v, %v", p, found)
	}
	for kern, want := range map[int]api.Errno{-400: 0, -401: 52, 0: 52, 16384: 0, 16385: 52} {
		answers(t, "kern "+strconv.Itoa(kern), changed(func(f *api.Font) { f.Pairs[0].Kern = kern }), want)
	}
	answers(t, "the pairs the other way round", changed(func(f *api.Font) { slices.Reverse(f.Pairs) }), 52)
	answers(t, "a glyph twice", changed(func(f *api.Font) { f.Glyphs[2] = f.Glyphs[1] }), 51)
	answers(t, "Em 0", changed(func(f *api.Font) { f.Em = 0 }), 1)
	answers(t, "a Width of 16385", changed(func(f *api.Font) { f.Glyphs[0].Width = 16385 }), 51)
	answers(t, "a glyph D800", changed(func(f *api.Font) { f.Glyphs[3].Rune = 0xD800 }), 51)
	answers(t, "a ligature to a rune without a glyph", changed(func(f *api.Font) { f.Pairs[1].Lig = 99 }), 52)
	answers(t, "a ligature with a kern", changed(func(f *api.Font) { f.Pairs[1].Kern = 1 }), 52)
	tells(t, open(t, api.Font{Em: 1}), api.Font{Em: 1})
}

// P5.1, P5.3: nil lists and empty ones are the same.
func TestNothing(t *testing.T) {
	for _, f := range []api.Font{{Em: 1}, {Em: api.MaxEm, Glyphs: []api.Glyph{}, Pairs: []api.Pair{}}, {Em: 5, Glyphs: make([]api.Glyph, 0, 9), Pairs: make([]api.Pair, 0, 9)}} {
		m := open(t, f)
		if m.All() == nil {
			t.Fatal("All is nil")
		}
		tells(t, m, f)
		for _, r := range edges() {
			if g, found := m.Glyph(r); found || g != (api.Glyph{}) {
				t.Errorf("Glyph(%d): %v, %v", r, g, found)
			}
			if p, found := m.Pair(r, r); found || p != (api.Pair{}) {
				t.Errorf("Pair(%d, %d): %v, %v", r, r, p, found)
			}
		}
	}
	lone := api.Font{Em: 1, Glyphs: []api.Glyph{{}}} // of the rune 0
	tells(t, open(t, lone), lone)
}

// P5.1, 1: whatever else there is.
func TestNewEm(t *testing.T) {
	for _, em := range edges() {
		want := api.OK
		if em < 1 || em > 16384 {
			want = api.ErrArg
		}
		answers(t, "Em "+strconv.Itoa(em), changed(func(f *api.Font) { f.Em = em }), want)
		answers(t, "Em alone "+strconv.Itoa(em), api.Font{Em: em}, want)
	}
}

// P5.1, 2
func TestNewMany(t *testing.T) {
	answers(t, "as many as may be", whole(), api.OK)
	glyphs := whole()
	glyphs.Glyphs = append(glyphs.Glyphs, api.Glyph{Rune: 0x10FFFF})
	answers(t, "a glyph more", glyphs, api.ErrTableMany)
	glyphs.Pairs = nil
	answers(t, "a glyph more, no pair", glyphs, api.ErrTableMany)
	pairs := whole()
	pairs.Pairs = append(pairs.Pairs, api.Pair{Left: 3 * 1023, Right: 3 * 1023, Kern: 1})
	answers(t, "a pair more", pairs, api.ErrTableMany)
	answers(t, "pairs without glyphs", api.Font{Em: 1, Pairs: make([]api.Pair, 4097)}, api.ErrTableMany)
	answers(t, "many pairs without glyphs", api.Font{Em: 1, Pairs: make([]api.Pair, 1<<17)}, api.ErrTableMany)
	answers(t, "many glyphs", api.Font{Em: 1, Glyphs: make([]api.Glyph, 1<<20)}, api.ErrTableMany)
}

// P5.1: of two errors the first one in the chapter's order.
func TestNewOrder(t *testing.T) {
	em := func(f *api.Font) { f.Em = 16385 }
	glyphs := func(f *api.Font) { f.Glyphs = append(f.Glyphs, make([]api.Glyph, 1024)...) }
	pairs := func(f *api.Font) { f.Pairs = append(f.Pairs, make([]api.Pair, 4096)...) }
	glyph := func(f *api.Font) { f.Glyphs[3].Depth = -1 }
	pair := func(f *api.Font) { f.Pairs[0].Left = 5 }
	errs := []api.Errno{api.ErrArg, api.ErrTableMany, api.ErrTableMany, api.ErrTableGlyph, api.ErrTablePair}
	all := []func(f *api.Font){em, glyphs, pairs, glyph, pair}
	for i, a := range all {
		answers(t, "one", changed(a), errs[i])
		for j, b := range all {
			f := changed(a)
			b(&f)
			answers(t, "two", f, errs[min(i, j)])
		}
	}
}

// P5.1, 3: each number of each glyph.
func TestNewGlyph(t *testing.T) {
	for n := range example().Glyphs {
		for _, x := range edges() {
			want := api.OK
			if x < 0 || x > 16384 {
				want = api.ErrTableGlyph
			}
			answers(t, "Height", changed(func(f *api.Font) { f.Glyphs[n].Height = x }), want)
			answers(t, "Depth", changed(func(f *api.Font) { f.Glyphs[n].Depth = x }), want)
			answers(t, "Width", changed(func(f *api.Font) { f.Pairs, f.Glyphs[n].Width = nil, x }), want)
		}
	}
}

// P5.1, 3: runes alone, each above the one ahead of it.
func TestNewRune(t *testing.T) {
	of := func(l ...int) api.Font {
		f := api.Font{Em: 1}
		for _, r := range l {
			f.Glyphs = append(f.Glyphs, api.Glyph{Rune: r})
		}
		return f
	}
	for _, l := range [][]int{{0}, {0, 1}, {0xD7FF, 0xE000}, {0x10FFFF}, {0, 127, 128, 0x7FF, 0x800, 0xD7FF, 0xE000, 0xFFFF, 0x10000, 0x10FFFF}} {
		answers(t, "rising runes", of(l...), api.OK)
	}
	for _, l := range [][]int{
		{-1}, {0xD800}, {0xDFFF}, {0x110000}, {math.MinInt}, {math.MaxInt}, {1<<32 + 97}, {97, 1<<32 + 98}, {-97},
		{0, 0}, {97, 97}, {98, 97}, {97, 99, 98}, {0xE000, 0xD7FF}, {1, 2, 3, 3}, {0x10FFFF, 0}, {97, -98}, {97, math.MinInt}, {0xD7FF, 0xD800, 0xE000},
	} {
		answers(t, "runes that do not rise", of(l...), api.ErrTableGlyph)
	}
}

// P5.1, 4: there is a glyph of each side, whatever the pair is.
func TestNewSides(t *testing.T) {
	for n := range example().Pairs {
		for _, r := range append(edges(), 96, 99, 101, 103, 0xFB00, 0xFB02) {
			if r == 97 || r == 98 {
				continue
			}
			answers(t, "Left", changed(func(f *api.Font) { f.Pairs = f.Pairs[n : n+1]; f.Pairs[0].Left = r }), api.ErrTablePair)
			answers(t, "Right", changed(func(f *api.Font) { f.Pairs = f.Pairs[n : n+1]; f.Pairs[0].Right = r }), api.ErrTablePair)
		}
	}
	answers(t, "no glyphs", api.Font{Em: 1, Pairs: []api.Pair{{Kern: 1}}}, api.ErrTablePair)
	answers(t, "the rune 0", api.Font{Em: 1, Glyphs: []api.Glyph{{}}, Pairs: []api.Pair{{Kern: 1}}}, api.OK)
}

// P5.1, 4: pairs rise by Left, those of one Left by Right.
func TestNewPairOrder(t *testing.T) {
	of := func(l ...[2]int) api.Font {
		f := example()
		f.Pairs = nil
		for _, s := range l {
			f.Pairs = append(f.Pairs, api.Pair{Left: s[0], Right: s[1], Kern: 1})
		}
		return f
	}
	answers(t, "by both", of([2]int{97, 97}, [2]int{97, 98}, [2]int{98, 97}, [2]int{98, 102}, [2]int{102, 97}), api.OK)
	answers(t, "Right falls as Left rises", of([2]int{97, 102}, [2]int{98, 98}, [2]int{102, 97}), api.OK)
	answers(t, "one twice", of([2]int{97, 98}, [2]int{97, 98}), api.ErrTablePair)
	answers(t, "Right falls", of([2]int{97, 98}, [2]int{97, 97}), api.ErrTablePair)
	answers(t, "Left falls as Right rises", of([2]int{98, 97}, [2]int{97, 98}), api.ErrTablePair)
	answers(t, "Left falls", of([2]int{98, 97}, [2]int{97, 97}), api.ErrTablePair)
	answers(t, "the last one falls", of([2]int{97, 97}, [2]int{98, 97}, [2]int{102, 97}, [2]int{97, 98}), api.ErrTablePair)
	twice := func(f *api.Font) { f.Pairs = append(f.Pairs, api.Pair{Left: 102, Right: 97, Kern: 1}) }
	answers(t, "a ligature, and a kern of the same two", changed(twice), api.ErrTablePair)
}

// P5.1, 4: a kern is held against the narrower of both, on whichever side that is.
func TestNewKern(t *testing.T) {
	of := func(left, right, kern int) api.Font {
		return api.Font{Em: 1, Glyphs: []api.Glyph{{Rune: 1, Width: left}, {Rune: 2, Width: right}}, Pairs: []api.Pair{{Left: 1, Right: 2, Kern: kern}}}
	}
	widths := []int{0, 1, 2, 300, 301, 16383, 16384}
	for _, left := range widths {
		for _, right := range widths {
			for _, kern := range append(edges(), -1, -2, -3, -300, -301, -302, -16383, 300) {
				want := api.OK
				if kern == 0 || kern > 16384 || kern < -min(left, right) {
					want = api.ErrTablePair
				}
				answers(t, "kern "+strconv.Itoa(kern), of(left, right, kern), want)
			}
		}
	}
	for _, lig := range edges() {
		want := api.OK
		if lig != 0 {
			want = api.ErrTablePair
		}
		f := of(5, 5, 1)
		f.Pairs[0].Lig = lig
		answers(t, "a kern with the Lig "+strconv.Itoa(lig), f, want)
	}
}

// P5.1, 4: a ligature is a glyph's, and has no kern; it may be one of the two, and the rune 0.
func TestNewLigature(t *testing.T) {
	f := api.Font{Em: 1, Glyphs: []api.Glyph{{}, {Rune: 97, Width: 9}, {Rune: 98, Width: 9}}, Pairs: []api.Pair{{Left: 97, Right: 98, Is: true}}}
	for _, x := range append(edges(), 3, -97) {
		want := api.ErrTablePair
		if x == 0 || x == 97 || x == 98 {
			want = api.OK
		}
		f.Pairs[0].Lig, f.Pairs[0].Kern = x, 0
		answers(t, "Lig "+strconv.Itoa(x), f, want)
		want = api.ErrTablePair
		if x == 0 {
			want = api.OK
		}
		f.Pairs[0].Lig, f.Pairs[0].Kern = 98, x
		answers(t, "a ligature's Kern "+strconv.Itoa(x), f, want)
	}
	f.Glyphs, f.Pairs[0].Lig, f.Pairs[0].Kern = f.Glyphs[1:], 0, 0
	answers(t, "Lig 0 without its glyph", f, api.ErrTablePair)
}

// P5.1 to P5.3, R8: fonts that may be, and those with some numbers turned, against the model.
func TestNewAny(t *testing.T) {
	r := &numbers{state: 5}
	seen := map[api.Errno]int{}
	for range 60000 {
		f := small(r)
		if e := verdict(f); e != api.OK {
			t.Fatalf("the model itself: %d of %v", e, f)
		}
		for range r.below(4) {
			turn(r, &f)
		}
		m, e := table.New(f)
		if want := verdict(f); e != want || (m != nil) != (want == api.OK) {
			t.Fatalf("New(%v): a table: %v, %d, want %d", f, m != nil, e, want)
		}
		seen[e]++
		if m != nil {
			tells(t, m, f)
		}
	}
	for _, e := range []api.Errno{api.OK, api.ErrArg, api.ErrTableGlyph, api.ErrTablePair} {
		if seen[e] < 2000 {
			t.Errorf("%d came %d times only", e, seen[e])
		}
	}
}

// P5.2: of any numbers; what there is not is nothing.
func TestGlyph(t *testing.T) {
	for _, f := range []api.Font{example(), whole()} {
		m := open(t, f)
		for r := -300; r < 0x10100; r++ {
			asks(t, m, f, r)
		}
		for _, r := range edges() {
			asks(t, m, f, r)
		}
		for _, more := range []int{1 << 16, 1 << 21, 1 << 31, 1 << 32, 1 << 62, math.MinInt} {
			for _, g := range f.Glyphs {
				asks(t, m, f, g.Rune+more)
				asks(t, m, f, -g.Rune-more)
			}
		}
	}
}

func asks(t *testing.T, m *table.Table, f api.Font, r int) {
	t.Helper()
	g, found := m.Glyph(r)
	if want, is := listed(f).glyph(r); g != want || found != is {
		t.Fatalf("Glyph(%x): %v, %v, want %v, %v", r, g, found, want, is)
	}
}

// P5.2: of any numbers, in this order.
func TestPair(t *testing.T) {
	var some []int
	for n := range 24 {
		some = append(some, n, 3*1023-n)
	}
	for _, f := range []api.Font{example(), whole()} {
		m := open(t, f)
		sides := append(append(edges(), some...), 96, 99, 102, 0xFB01)
		for _, left := range sides {
			for _, right := range sides {
				p, found := m.Pair(left, right)
				if want, is := listed(f).pair(left, right); p != want || found != is {
					t.Fatalf("Pair(%x, %x): %v, %v, want %v, %v", left, right, p, found, want, is)
				}
			}
		}
		for _, p := range f.Pairs {
			for _, more := range []int{1 << 21, 1 << 32, 1 << 42, math.MinInt} {
				for _, s := range [][2]int{{p.Left + more, p.Right}, {p.Left, p.Right + more}, {p.Left - more, p.Right + more}} {
					if q, found := m.Pair(s[0], s[1]); found || q != (api.Pair{}) {
						t.Fatalf("Pair(%x, %x): %v, %v", s[0], s[1], q, found)
					}
				}
			}
		}
	}
}

// P5.3: whole fonts, so that no order but the font's is told, each time.
func TestFont(t *testing.T) {
	for _, f := range []api.Font{example(), whole(), {Em: 7}, {Em: 7, Glyphs: example().Glyphs}} {
		m := open(t, f)
		for range 20 {
			tells(t, m, f)
		}
	}
}

// P5.3, R6: left early, gone through again, and gone through within itself.
func TestAllAgain(t *testing.T) {
	want := example().Glyphs
	all := open(t, example()).All()
	for stop := range want {
		n := 0
		for g := range all {
			if g != want[n] {
				t.Errorf("%v stands where %v should", g, want[n])
			}
			if l := slices.Collect(all); !slices.Equal(l, want) {
				t.Errorf("within itself: %v", l)
			}
			for range all {
				break
			}
			if n == stop {
				break
			}
			n++
		}
		if n != stop {
			t.Errorf("left at %d, not at %d", n, stop)
		}
	}
	if l := slices.Collect(all); !slices.Equal(l, want) {
		t.Errorf("again: %v", l)
	}
}

// P5.3, R6: by hand: behind a false nothing more is given.
func TestAllLeft(t *testing.T) {
	n := 0
	open(t, whole()).All()(func(api.Glyph) bool {
		n++
		return n < 10
	})
	if n != 10 {
		t.Errorf("left behind %d", n)
	}
}

// roomy is F in lists that have room behind their ends, in which something stands.
func roomy() (f api.Font, glyphs []api.Glyph, pairs []api.Pair) {
	f = example()
	glyphs = append(slices.Clone(f.Glyphs), api.Glyph{Rune: 1, Width: 2, Height: 3, Depth: 4}, api.Glyph{Rune: 5})
	pairs = append(slices.Clone(f.Pairs), api.Pair{Left: 1, Right: 2, Is: true, Lig: 3, Kern: 4}, api.Pair{Left: 5})
	f.Glyphs, f.Pairs = glyphs[:4], pairs[:2]
	return f, glyphs, pairs
}

// scrawl writes over a font's lists, and over the room behind their ends.
func scrawl(f api.Font) {
	glyphs, pairs := f.Glyphs[:cap(f.Glyphs)], f.Pairs[:cap(f.Pairs)]
	for n := range glyphs {
		glyphs[n] = api.Glyph{Rune: -9, Width: -9, Height: -9, Depth: -9}
	}
	for n := range pairs {
		pairs[n] = api.Pair{Left: -9, Right: -9, Is: true, Lig: -9, Kern: -9}
	}
}

// P5.4, R4: what is handed in stays as it is, whatever is done with the table.
func TestNotChanged(t *testing.T) {
	f, glyphs, pairs := roomy()
	wereGlyphs, werePairs := slices.Clone(glyphs), slices.Clone(pairs)
	m := open(t, f)
	scrawl(m.Font())
	m.Glyph(97)
	m.Pair(97, 98)
	for range m.All() {
	}
	answers(t, "Em 0", api.Font{Glyphs: glyphs[:4], Pairs: pairs[:2]}, api.ErrArg)
	answers(t, "a glyph out of order", api.Font{Em: 1, Glyphs: glyphs, Pairs: pairs[:2]}, api.ErrTableGlyph)
	answers(t, "a pair out of order", api.Font{Em: 1, Glyphs: glyphs[:4], Pairs: pairs}, api.ErrTablePair)
	if !slices.Equal(glyphs, wereGlyphs) || !slices.Equal(pairs, werePairs) || !same(f, example()) {
		t.Errorf("%v, %v", glyphs, pairs)
	}
}

// P5.4, R4: what was handed in may be written over; an iterator that was answered ahead of that tells nothing of it.
func TestNotKept(t *testing.T) {
	f, _, _ := roomy()
	m := open(t, f)
	all := m.All()
	scrawl(f)
	tells(t, m, example())
	if l := slices.Collect(all); !slices.Equal(l, example().Glyphs) {
		t.Errorf("All: %v", l)
	}
	for range all {
		scrawl(f)
	}
	tells(t, m, example())
}

// P5.4, R4: what is answered may be written over, the room behind its lists too: no other answer shows it.
func TestAnswersAlone(t *testing.T) {
	for _, f := range []api.Font{example(), whole()} {
		m := open(t, f)
		all, first, second := m.All(), m.Font(), m.Font()
		scrawl(first)
		if !same(second, f) {
			t.Error("an earlier answer changed")
		}
		tells(t, m, f)
		if l := slices.Collect(all); !slices.Equal(l, f.Glyphs) {
			t.Errorf("All: %v", l)
		}
		for g := range all {
			g.Rune = -9
			scrawl(m.Font())
		}
		tells(t, m, f)
		other := open(t, second)
		scrawl(second)
		tells(t, other, f)
	}
}

// P5.4: two tables have nothing to do with one another.
func TestTablesAlone(t *testing.T) {
	m := open(t, example())
	f := changed(func(f *api.Font) { f.Em, f.Glyphs[0].Width, f.Pairs[0].Kern, f.Pairs = 5, 60, -7, f.Pairs[:1] })
	o := open(t, f)
	answers(t, "one that may not be", changed(func(f *api.Font) { f.Pairs[1].Kern = 1 }), api.ErrTablePair)
	tells(t, m, example())
	tells(t, o, f)
	if p, found := o.Pair(102, 97); found || p != (api.Pair{}) {
		t.Errorf("a pair of another font: %v, %v", p, found)
	}
}

// P5.4: by many goroutines at one time, some of which write over what they were answered.
func TestManyAsk(t *testing.T) {
	f := whole()
	m := open(t, f)
	all := m.All()
	done := make(chan int)
	for range 8 {
		go func() {
			wrong := 0
			for n := range 40 {
				g, p := f.Glyphs[n*20], f.Pairs[n*100]
				h, isGlyph := m.Glyph(g.Rune)
				q, isPair := m.Pair(p.Left, p.Right)
				_, isNone := m.Glyph(-n - 1)
				font := m.Font()
				if h != g || !isGlyph || q != p || !isPair || isNone || !same(font, f) || !slices.Equal(slices.Collect(all), f.Glyphs) {
					wrong++
				}
				scrawl(font)
			}
			done <- wrong
		}()
	}
	for range 8 {
		if wrong := <-done; wrong != 0 {
			t.Errorf("%d other answers", wrong)
		}
	}
}

// P5.5: what All and Font give is found, and New takes Font again.
func TestFound(t *testing.T) {
	r := &numbers{state: 6}
	fonts := []api.Font{example(), whole()}
	for range 300 {
		fonts = append(fonts, small(r))
	}
	for _, f := range fonts {
		m := open(t, f)
		n := 0
		for g := range m.All() {
			if h, found := m.Glyph(g.Rune); h != g || !found {
				t.Errorf("Glyph(%x): %v, %v, want %v", g.Rune, h, found, g)
			}
			n++
		}
		g := m.Font()
		for _, p := range g.Pairs {
			if q, found := m.Pair(p.Left, p.Right); q != p || !found {
				t.Errorf("Pair(%x, %x): %v, %v, want %v", p.Left, p.Right, q, found, p)
			}
		}
		if n != len(f.Glyphs) || len(g.Pairs) != len(f.Pairs) {
			t.Errorf("%d glyphs, %d pairs", n, len(g.Pairs))
		}
		tells(t, open(t, g), f)
	}
}

// P5.5: of two glyphs side by side, with any kern that New takes, neither the beginnings nor the ends change their order.
func TestKernKeepsOrder(t *testing.T) {
	taken := 0
	for left := range 12 {
		for right := range 12 {
			for kern := -20; kern <= 20; kern++ {
				f := api.Font{Em: 1, Glyphs: []api.Glyph{{Rune: 1, Width: left}, {Rune: 2, Width: right}}, Pairs: []api.Pair{{Left: 1, Right: 2, Kern: kern}}}
				if _, e := table.New(f); e != api.OK {
					continue
				}
				taken++
				if begin := left + kern; begin < 0 || begin+right < left {
					t.Errorf("%d wide, %d wide, kern %d", left, right, kern)
				}
			}
		}
	}
	if want := 12*12*20 + 506; taken != want { // each kern from 1 on, and of those below 0 as many as the narrower is wide
		t.Errorf("%d kerns were taken, want %d", taken, want)
	}
}
