package shape_test

import (
	"fmt"
	"math"
	"reflect"
	"slices"
	"strings"
	"sync"
	"testing"

	"platen/api"
	"platen/meter"
	"platen/shape"
	"platen/table"
)

const enough = 1 << 40

// counted is what a meter tells.
type counted struct {
	steps, held, peak int
	refused           api.Errno
}

func counts(m *meter.Meter) counted { return counted{m.Steps(), m.Held(), m.Peak(), m.Refused()} }

func open(steps, cells int) *meter.Meter {
	m, e := meter.New(steps, cells)
	if e != api.OK {
		panic("no meter")
	}
	return m
}

// refused is a meter that has refused a step, or a cell.
func refused(step bool) *meter.Meter {
	m := open(5, 5)
	if step {
		m.Step(6)
	} else {
		m.Hold(6)
	}
	return m
}

func made(t *testing.T, f api.Font) *table.Table {
	t.Helper()
	x, e := table.New(f)
	if e != api.OK {
		t.Fatalf("no font: %d of %s", e, brief(f))
	}
	return x
}

// face is a font and its table.
type face struct {
	font  api.Font
	table *table.Table
}

func faceOf(t *testing.T, f api.Font) face {
	t.Helper()
	return face{f, made(t, f)}
}

// brief is the beginning of what a long value is written as.
func brief(v any) string {
	s := fmt.Sprint(v)
	return s[:min(len(s), 500)]
}

// holds holds Marks by a budget against the model.
func holds(t *testing.T, x face, r api.Run, steps, cells int) ([]api.Mark, api.Fault) {
	t.Helper()
	m, other := open(steps, cells), open(steps, cells)
	l, f := shape.Marks(m, x.table, r)
	want, fault := tell(x.font, r).played(other)
	if !slices.Equal(l, want) || f != fault || counts(m) != counts(other) {
		t.Fatalf("%s in %s by %d and %d: %s, %v, %v; want %s, %v, %v", brief(r), brief(x.font), steps, cells, brief(l), f, counts(m), brief(want), fault, counts(other))
	}
	return l, f
}

// short writes marks by their runes alone.
func short(l []api.Mark) string {
	var b strings.Builder
	for _, k := range l {
		b.WriteRune(rune(k.Rune))
	}
	return b.String()
}

// Each of the chapter's examples.
func TestExamples(t *testing.T) {
	x := faceOf(t, common())
	mark := func(r, width, kern, from, to int) api.Mark {
		return api.Mark{Rune: r, Width: width, Height: 7 * point, Depth: 2 * point, Kern: kern, From: from, To: to}
	}
	for _, k := range []struct {
		s            string
		at           int
		want         []api.Mark
		fault        api.Fault
		steps, cells int
	}{
		{"ab", 0, []api.Mark{mark('a', 5*point, 0, 0, 1), mark('b', 5*point, -point/2, 1, 2)}, api.Fault{}, 3, 2},
		{"fi", 7, []api.Mark{mark(0xFB01, 5*point, 0, 7, 9)}, api.Fault{}, 3, 1},
		{"ffi", 0, []api.Mark{mark('f', 3*point, 0, 0, 1), mark(0xFB01, 5*point, 0, 1, 3)}, api.Fault{}, 5, 2},
		{"", 0, nil, api.Fault{}, 0, 0},
		{"ax", 4, nil, api.Fault{Kind: 120, At: 5}, 2, 0},
	} {
		m := open(enough, enough)
		l, f := shape.Marks(m, x.table, run(k.s, k.at))
		if !slices.Equal(l, k.want) || f != k.fault || counts(m) != (counted{k.steps, k.cells, k.cells, 0}) {
			t.Errorf("%q: %v, %v, %v", k.s, l, f, counts(m))
		}
		holds(t, x, run(k.s, k.at), enough, enough)
	}
	m := open(2, enough)
	if l, f := shape.Marks(m, x.table, run("fi", 0)); len(l) != 0 || f != (api.Fault{Kind: 20}) || counts(m) != (counted{2, 0, 0, 20}) {
		t.Error(l, f, counts(m))
	}
}

// P12.1: ligatures of ligatures, of the one ahead too, and those that are none any more once another was made.
func TestLigatures(t *testing.T) {
	for _, k := range []struct {
		font    api.Font
		s, want string
	}{
		{letters("abc", "abc"), "ab", "c"},
		{letters("abc", "abc"), "ba", "ba"},
		{letters("abc", "abc"), "abab", "cc"},
		{letters("abcd", "abc", "cad"), "aba", "d"},           // what was made, with the next one
		{letters("abcd", "acd", "bbc"), "abb", "d"},           // the one ahead, with what was made
		{letters("abcd", "acd", "bbc", "ddd"), "abbabb", "d"}, // likewise, and both that were made
		{letters("abcd", "abc", "bbd"), "abb", "cb"},          // from the beginning on
		{letters("ab", "aaa"), "aaaaaaaa", "a"},               // itself
		{letters("ab", "abb"), "aaaab", "b"},                  // back to the beginning
		{letters("ab", "aab"), "aaa", "ba"},
		{letters("ab", "aab", "bab"), "aaaa", "b"},
		{letters("ab", "aab", "bb"), "aaaa", "bb"},
		{letters("abc", "abc", "cc"), "ababab", "ccc"},
		{letters("abcde", "abc", "bd", "dce"), "abdab", "ce"},
		{letters("abcdefg", "ag", "cde", "bef", "aef"), "abcd", "af"}, // as long as there is one, and no longer
	} {
		l, f := holds(t, faceOf(t, k.font), run(k.s, 0), enough, enough)
		if f.Kind != 0 || short(l) != k.want {
			t.Errorf("%s: %s, %v; want %s", k.s, short(l), f, k.want)
		}
	}
	// The bytes of all that a ligature was made of, whatever lies between.
	chars := []api.Char{{Rune: 'a', From: 3, To: 9}, {Rune: 'b', From: 20, To: 21}, {Rune: 'b', From: 30, To: 37}}
	l, _ := holds(t, faceOf(t, letters("abcd", "acd", "bbc")), api.Run{Chars: chars, Size: 100}, enough, enough)
	if want := []api.Mark{{Rune: 'd', Width: 53, Height: 76, Depth: 29, From: 3, To: 37}}; !slices.Equal(l, want) {
		t.Error(l, want)
	}
}

// P12.1: all fonts of two letters (of each pair none, a kern, a ligature to each), with all texts up to seven.
func TestTwoLetters(t *testing.T) {
	var texts []api.Run
	for long := range 8 {
		for bits := range 1 << long {
			s := ""
			for n := range long {
				s += string(rune('a' + bits>>n&1))
			}
			texts = append(texts, run(s, 1))
		}
	}
	for n := range 256 {
		var pairs []string
		for k, sides := range []string{"aa", "ab", "ba", "bb"} {
			if what := n >> (2 * k) & 3; what > 0 {
				pairs = append(pairs, sides+[]string{"", "", "a", "b"}[what])
			}
		}
		x := faceOf(t, letters("ab", pairs...))
		for _, r := range texts {
			holds(t, x, r, enough, enough)
		}
	}
}

// P12.1: kerns stand at the second one, of both ends of what they may be; there is none at the first one.
func TestKerns(t *testing.T) {
	f := api.Font{Em: 1000, Glyphs: []api.Glyph{{Rune: 'a', Width: 400}, {Rune: 'b', Width: 16384}}}
	for _, kern := range []int{-400, -399, -1, 1, 16383, 16384} {
		f.Pairs = []api.Pair{{Left: 'a', Right: 'b', Kern: kern}}
		l, _ := holds(t, faceOf(t, f), run("babba", 0), enough, enough)
		for n, want := range []int{0, 0, kern * 65536 / 100, 0, 0} {
			if got := l[n].Kern; got < want-1 || got > want+1 || want == 0 && got != 0 {
				t.Error(kern, n, got, want)
			}
		}
	}
	// What ceases to be beside another has no kern with it.
	l, _ := holds(t, faceOf(t, letters("abc", "ab", "bbc", "ca")), run("abba", 0), enough, enough)
	if short(l) != "aca" || l[1].Kern != 0 || l[2].Kern != 45875 { // 45875.2, to the nearest
		t.Error(l)
	}
}

// P12.1: a character without a glyph is told at its From, whatever that is, once its step was taken; nothing behind it is looked at.
func TestNoGlyph(t *testing.T) {
	x := faceOf(t, common())
	for _, at := range []int{0, 5, -1, 1 << 40, math.MaxInt, math.MinInt} {
		for _, c := range []int{'x', 'A', 0, ' ', 0xFB00, 0xFB02, 0x10FFFF} {
			for ahead, s := range []string{"", "a", "fi", "aab", "ffifi"} {
				r := run(s+"x"+"zfi", 0)
				r.Chars[len(s)] = api.Char{Rune: c, From: at, To: at - 1}
				if l, f := holds(t, x, r, enough, enough); len(l) != 0 || f != (api.Fault{Kind: 120, At: at}) {
					t.Error(ahead, l, f)
				}
				steps := []int{1, 2, 4, 4, 8}[ahead]
				if _, f := holds(t, x, r, steps, 0); f.Kind != 120 {
					t.Error(ahead, f)
				}
				if _, f := holds(t, x, r, steps-1, 0); f != (api.Fault{Kind: 20}) {
					t.Error(ahead, f)
				}
			}
		}
	}
	// A font without glyphs.
	holds(t, faceOf(t, api.Font{Em: 1}), run("a", 3), enough, enough)
	holds(t, faceOf(t, api.Font{Em: 1}), run("", 3), enough, enough)
}

// P12.1: no font has a glyph of a number that is no rune, though it has those that its bits, or a text of it, would be.
func TestNoRunes(t *testing.T) {
	f := api.Font{Em: 1}
	for _, r := range []int{0, 'a', 'b', 0xFB01, 0xFFFD} {
		f.Glyphs = append(f.Glyphs, api.Glyph{Rune: r, Width: 1})
	}
	x := faceOf(t, f)
	for _, c := range notRunes() {
		for _, s := range []string{"", "a", "\uFFFD"} {
			r := run(s+"b"+"\uFFFDa", 0)
			n := len([]rune(s))
			r.Chars[n].Rune = c
			if l, g := holds(t, x, r, enough, enough); len(l) != 0 || g != (api.Fault{Kind: 120, At: len(s)}) {
				t.Errorf("%x: %v, %v", c, l, g)
			}
		}
	}
	// Those that are.
	for s, want := range map[string]int{"\x00": 1, "\uFFFD": 1, "a\uFFFD\x00\uFB01b": 5} {
		if l, g := holds(t, x, run(s, 9), enough, enough); len(l) != want || short(l) != s || g.Kind != 0 {
			t.Errorf("%q: %v, %v", s, l, g)
		}
	}
	edges := api.Font{Em: 1}
	for _, r := range []int{0x7F, 0x80, 0x7FF, 0x800, 0xD7FF, 0xE000, 0xFFFF, 0x10000, 0x10FFFF} {
		edges.Glyphs = append(edges.Glyphs, api.Glyph{Rune: r, Depth: r % 999})
	}
	s := "\x7F\u0080\u07FF\u0800\uD7FF\uE000\uFFFF\U00010000\U0010FFFF"
	if l, g := holds(t, faceOf(t, edges), run(s, 0), enough, enough); short(l) != s || g.Kind != 0 {
		t.Error(l, g)
	}
}

// P12.1: any size; each measure is right or 0 by itself.
func TestSizes(t *testing.T) {
	for _, em := range []int{1, 2, 3, 1000, 16383, 16384} {
		for _, turn := range [][3]int{{0, 1, 16384}, {16384, 0, 1}, {1, 16384, 0}, {500, 501, 3}, {16384, 16384, 16384}, {em, em, em}} {
			f := api.Font{Em: em, Glyphs: []api.Glyph{{Rune: 'a', Width: turn[0], Height: turn[1], Depth: turn[2]}, {Rune: 'b', Width: turn[2], Height: turn[0], Depth: turn[1]}}}
			f.Pairs = []api.Pair{{Left: 'a', Right: 'a', Kern: 16384}, {Left: 'a', Right: 'b', Kern: 1}}
			if least := -min(turn[0], turn[2]); least < 0 {
				f.Pairs = append(f.Pairs, api.Pair{Left: 'b', Right: 'a', Kern: least})
			}
			x := faceOf(t, f)
			for _, size := range sizes() {
				r := run("aaba", 0)
				r.Size = size
				if l, g := holds(t, x, r, enough, enough); len(l) != 4 || g.Kind != 0 {
					t.Error(l, g)
				}
			}
		}
	}
	// By hand: halves go away from 0; what is too great is 0, and changes none beside it.
	f := api.Font{Em: 2, Glyphs: []api.Glyph{{Rune: 'a', Width: 1, Height: 3, Depth: 2}}, Pairs: []api.Pair{{Left: 'a', Right: 'a', Kern: -1}}}
	x := faceOf(t, f)
	for size, want := range map[int][4]int{5: {3, 8, 5, -3}, -5: {-3, -8, -5, 3}, 1 << 46: {1 << 45, 0, 1 << 46, -1 << 45}, 1<<46 + 1: {}, math.MinInt: {}, 0: {}} {
		r := run("aa", 0)
		r.Size = size
		l, _ := holds(t, x, r, enough, enough)
		if k := l[1]; k.Width != want[0] || k.Height != want[1] || k.Depth != want[2] || k.Kern != want[3] {
			t.Error(size, k)
		}
	}
}

// P12.1: t is the run's font, whatever r.Font says.
func TestName(t *testing.T) {
	x := faceOf(t, common())
	want, _ := holds(t, x, run("abfi", 0), enough, enough)
	for _, name := range []string{"", "G", "\xFF", strings.Repeat("x", 99)} {
		r := run("abfi", 0)
		r.Font = name
		if l, f := holds(t, x, r, enough, enough); !slices.Equal(l, want) || f.Kind != 0 {
			t.Error(name, l, f)
		}
	}
}

// P12.1, P12.4: all budgets of short runs; just enough is, and one less is not.
func TestBudgets(t *testing.T) {
	r := &numbers{7}
	for _, s := range []string{"", "a", "ab", "fi", "ffi", "fifi", "abfiab", "fffiii", "ax", "fix", "xa"} {
		x := faceOf(t, common())
		w := open(enough, enough)
		shape.Marks(w, x.table, run(s, 0))
		for steps := range w.Steps() + 2 {
			for cells := range w.Peak() + 2 {
				holds(t, x, run(s, 3), steps, cells)
			}
		}
	}
	for range 4000 {
		f := r.font(r.below(11))
		x, run := faceOf(t, f), api.Run{Size: of(r, sizes()...), Chars: r.chars(f, 12)}
		m := open(enough, enough)
		l, fault := shape.Marks(m, x.table, run)
		if again, same := holds(t, x, run, m.Steps(), m.Peak()); same != fault || !slices.Equal(again, l) {
			t.Error(again, same)
		}
		if m.Steps() > 0 {
			if _, f := holds(t, x, run, m.Steps()-1, m.Peak()); f != (api.Fault{Kind: 20}) {
				t.Error(f)
			}
		}
		if m.Peak() > 0 {
			if _, f := holds(t, x, run, m.Steps(), m.Peak()-1); f != (api.Fault{Kind: 21}) {
				t.Error(f)
			}
		}
		holds(t, x, run, r.below(m.Steps()+1), r.below(m.Peak()+1))
	}
}

// P12.1: a meter that has counted goes on, and one that has refused goes on refusing; of a run without characters it is asked nothing.
func TestMeters(t *testing.T) {
	x := made(t, common())
	m := open(10, 6)
	m.Step(4)
	m.Hold(3)
	if l, f := shape.Marks(m, x, run("ab", 0)); len(l) != 2 || f.Kind != 0 || counts(m) != (counted{7, 5, 5, 0}) {
		t.Error(l, f, counts(m))
	}
	m.Drop(4)
	if l, f := shape.Marks(m, x, run("a", 0)); len(l) != 1 || f.Kind != 0 || counts(m) != (counted{8, 2, 5, 0}) {
		t.Error(l, f, counts(m))
	}
	if l, f := shape.Marks(m, x, run("ab", 7)); len(l) != 0 || f != (api.Fault{Kind: 20}) || counts(m) != (counted{10, 2, 5, 20}) {
		t.Error(l, f, counts(m))
	}
	m = open(10, 3)
	m.Hold(2)
	if l, f := shape.Marks(m, x, run("ab", 7)); len(l) != 0 || f != (api.Fault{Kind: 21}) || counts(m) != (counted{3, 3, 3, 21}) {
		t.Error(l, f, counts(m))
	}
	for step, kind := range map[bool]api.Errno{true: 20, false: 21} {
		for _, s := range []string{"a", "fi", "x", "abab"} {
			m := refused(step)
			ahead := counts(m)
			if l, f := shape.Marks(m, x, run(s, 3)); len(l) != 0 || f != (api.Fault{Kind: kind}) || counts(m) != ahead {
				t.Error(step, l, f, counts(m))
			}
			if l, f := shape.Marks(m, x, api.Run{}); len(l) != 0 || f != (api.Fault{}) || counts(m) != ahead {
				t.Error(step, l, f, counts(m))
			}
		}
	}
}

// P12.1: runs as they come, with any places, and any sizes.
func TestAny(t *testing.T) {
	r := &numbers{3}
	came := map[api.Errno]int{}
	ligatures := 0
	for range 20000 {
		f := r.font(r.below(11))
		x := faceOf(t, f)
		run := api.Run{Font: of(r, "", "F"), Size: of(r, sizes()...), Chars: r.chars(f, 20)}
		l, fault := holds(t, x, run, enough, enough)
		came[fault.Kind]++
		if fault.Kind == 0 {
			ligatures += len(run.Chars) - len(l)
		}
		run.Chars = r.elsewhere(run.Chars)
		holds(t, x, run, enough, enough)
	}
	if came[0] < 5000 || came[120] < 2000 || ligatures < 5000 {
		t.Error(came, ligatures)
	}
}

// P12.2: the marks stand for the characters, in their order.
func TestText(t *testing.T) {
	r := &numbers{5}
	for range 5000 {
		f := r.font(r.below(11))
		chars := r.chars(f, 20)
		l, fault := shape.Marks(open(enough, enough), made(t, f), api.Run{Size: point, Chars: chars})
		if fault.Kind != 0 {
			continue
		}
		if len(l) > len(chars) || (len(l) == 0) != (len(chars) == 0) {
			t.Fatal(chars, l)
		}
		// Each mark takes characters away from the front, up to the one that has its To.
		for _, k := range l {
			if k.From != chars[0].From {
				t.Fatal(chars, l)
			}
			end := slices.IndexFunc(chars, func(c api.Char) bool { return c.To == k.To })
			if end < 0 {
				t.Fatal(chars, l)
			}
			chars = chars[end+1:]
		}
		if len(chars) > 0 {
			t.Fatal(chars, l)
		}
	}
}

// P12.3, P12.4: no two marks side by side are a ligature; a ligature makes the row shorter, and all is charged for.
func TestEnds(t *testing.T) {
	r := &numbers{9}
	for range 5000 {
		f := r.font(r.below(11))
		x, chars, m := made(t, f), r.chars(f, 20), open(enough, enough)
		l, fault := shape.Marks(m, x, api.Run{Size: point, Chars: chars})
		if fault.Kind != 0 || len(chars) == 0 {
			continue
		}
		for n := 1; n < len(l); n++ {
			if p, _ := x.Pair(l[n-1].Rune, l[n].Rune); p.Is {
				t.Fatal(l)
			}
		}
		made := len(chars) - len(l)
		if m.Steps() != len(chars)+made+len(l)-1 || m.Steps() > 2*len(chars) || m.Held() != len(l) || m.Peak() != len(l) {
			t.Fatal(len(chars), len(l), counts(m))
		}
	}
}

// P12.5: two runs of one size, with no pair between them, are one.
func TestTwoRuns(t *testing.T) {
	r := &numbers{11}
	came := 0
	for range 20000 {
		f := r.font(r.below(6))
		x, size := made(t, f), of(r, sizes()...)
		front, back := r.chars(f, 8), r.chars(f, 8)
		a, fa := shape.Marks(open(enough, enough), x, api.Run{Size: size, Chars: front})
		b, fb := shape.Marks(open(enough, enough), x, api.Run{Size: size, Chars: back})
		joins := func(p api.Pair) bool { return p.Left == a[len(a)-1].Rune }
		if fa.Kind != 0 || fb.Kind != 0 || len(a) == 0 || slices.ContainsFunc(f.Pairs, joins) {
			continue
		}
		both, fault := shape.Marks(open(enough, enough), x, api.Run{Size: size, Chars: slices.Concat(front, back)})
		if fault.Kind != 0 || !slices.Equal(both, slices.Concat(a, b)) {
			t.Fatal(a, b, both, fault)
		}
		came++
	}
	if came < 1000 {
		t.Error(came)
	}
}

// P12.1: long runs, and fonts at the limits.
func TestGreat(t *testing.T) {
	long := run(strings.Repeat("abfi", 1<<14), 0)
	if l, f := holds(t, faceOf(t, common()), long, enough, enough); len(l) != 3<<14 || f.Kind != 0 {
		t.Error(len(l), f)
	}
	holds(t, faceOf(t, common()), long, enough, 3<<14-1)
	holds(t, faceOf(t, common()), long, 2<<16-2, enough)
	one := run(strings.Repeat("a", 1<<16)+"b", 0)
	if l, f := holds(t, faceOf(t, letters("ab", "aaa", "abb")), one, enough, 1); short(l) != "b" || f.Kind != 0 {
		t.Error(len(l), f)
	}
	one = run(strings.Repeat("a", 1<<12)+"b", 0) // all of them at once, in the end
	if l, f := holds(t, faceOf(t, letters("ab", "abb")), one, enough, 1); short(l) != "b" || l[0].To != 1<<12+1 || f.Kind != 0 {
		t.Error(len(l), f)
	}
	x, r := faceOf(t, whole()), &numbers{21}
	for range 30 {
		if l, f := holds(t, x, api.Run{Size: 10 * point, Chars: r.within(x.font, 50)}, enough, enough); len(l) == 0 || f.Kind != 0 {
			t.Error(l, f)
		}
	}
}

// within are characters of a font alone.
func (r *numbers) within(f api.Font, many int) []api.Char {
	var l []api.Char
	for n := range many {
		l = append(l, api.Char{Rune: f.Glyphs[r.below(len(f.Glyphs))].Rune, From: 2 * n, To: 2*n + 1})
	}
	return l
}

// R4: what is handed in stays as it was, with the room behind it; and the table tells its font as before.
func TestHandedIn(t *testing.T) {
	r := &numbers{19}
	for range 1000 {
		f := r.font(5)
		x, fill := made(t, f), api.Char{Rune: 9, From: 8, To: 7}
		chars := append(r.chars(f, 9), fill, fill)
		was := slices.Clone(chars)
		run := api.Run{Font: "F", Size: point, Chars: chars[:len(chars)-2]}
		l, _ := shape.Marks(open(enough, enough), x, run)
		scribble(l)
		if !slices.Equal(chars, was) || run.Font != "F" || run.Size != point || len(run.Chars) != len(was)-2 {
			t.Fatal("a run is no more what it was")
		}
		g := x.Font()
		if g.Em != f.Em || !slices.Equal(g.Glyphs, f.Glyphs) || !slices.Equal(g.Pairs, f.Pairs) {
			t.Fatal("a table is no more what it was")
		}
	}
}

// scribble writes over all of an answer, and the room behind it.
func scribble(l []api.Mark) {
	l = l[:cap(l)]
	for n := range l {
		l[n] = api.Mark{Rune: math.MinInt, Width: 1, Height: 2, Depth: 3, Kern: 4, From: 5, To: 6}
	}
}

// R4, R5: an answer is the caller's, and what was handed in may be written over once there is one.
func TestAnswered(t *testing.T) {
	x := faceOf(t, common())
	r := run("abffiab", 0)
	first, _ := shape.Marks(open(enough, enough), x.table, r)
	want := slices.Clone(first)
	second, _ := shape.Marks(open(enough, enough), x.table, r)
	scribble(first)
	if !slices.Equal(second, want) {
		t.Error("an answer shares an earlier one's list")
	}
	for n := range r.Chars {
		r.Chars[n] = api.Char{Rune: 'x', From: -1}
	}
	if !slices.Equal(second, want) {
		t.Error("an answer shares what was handed in")
	}
	holds(t, x, run("abffiab", 0), enough, enough)
}

// R3: nothing is the same, nil or empty.
func TestNothing(t *testing.T) {
	x := faceOf(t, common())
	for _, chars := range [][]api.Char{nil, {}, make([]api.Char, 0, 5)} {
		for _, size := range sizes() {
			if l, f := holds(t, x, api.Run{Size: size, Chars: chars}, 0, 0); len(l) != 0 || f.Kind != 0 {
				t.Error(l, f)
			}
		}
	}
}

// R5: many goroutines may ask of one table and one run.
func TestSideBySide(t *testing.T) {
	x, r := made(t, common()), run(strings.Repeat("abffi", 20), 0)
	want, fault := shape.Marks(open(enough, enough), x, r)
	var all sync.WaitGroup
	for range 8 {
		all.Go(func() {
			for range 200 {
				m := open(enough, enough)
				if l, f := shape.Marks(m, x, r); f != fault || !reflect.DeepEqual(l, want) || m.Steps() != 199 {
					t.Error(brief(l), f)
				}
			}
		})
	}
	all.Wait()
}
