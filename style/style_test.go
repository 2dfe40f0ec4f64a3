package style_test

import (
	"math"
	"reflect"
	"slices"
	"strconv"
	"strings"
	"sync"
	"testing"

	"platen/api"
	"platen/meter"
	"platen/parse"
	"platen/style"
	"platen/tree"
)

const enough = 1 << 40

// counted is what a meter tells.
type counted struct {
	steps, held, peak int
	refused           api.Errno
}

func counts(m *meter.Meter) counted { return counted{m.Steps(), m.Held(), m.Peak(), m.Refused()} }

func open(steps, cells int) *meter.Meter {
	m, e := meter.New(steps, cells)
	if e != api.OK {
		panic("no meter")
	}
	return m
}

// same holds paragraphs against each other; a nil list and an empty one are the same.
func same(a, b []api.Par) bool {
	return slices.EqualFunc(a, b, func(x, y api.Par) bool {
		pieces := slices.EqualFunc(x.Pieces, y.Pieces, func(p, q api.Piece) bool {
			chars := slices.Equal(p.Run.Chars, q.Run.Chars)
			p.Run.Chars, q.Run.Chars = nil, nil
			return chars && reflect.DeepEqual(p, q)
		})
		x.Pieces, y.Pieces = nil, nil
		return pieces && reflect.DeepEqual(x, y)
	})
}

// holds holds Pars by a budget against the model.
func holds(t *testing.T, what string, l []api.Node, fonts []string, steps, cells int) ([]api.Par, api.Fault) {
	t.Helper()
	m, other := open(steps, cells), open(steps, cells)
	pars, f := style.Pars(m, l, fonts)
	want, fault := tell(l, fonts).played(other)
	if !same(pars, want) || f != fault || counts(m) != counts(other) {
		s, _ := tree.Print(l)
		t.Errorf("%s: %.300s in %q by %d and %d: %v, %v, %v; want %v, %v, %v", what, s, fonts, steps, cells, pars, f, counts(m), want, fault, counts(other))
	}
	return pars, f
}

// parsed is the document of a markup.
func parsed(t *testing.T, s string) []api.Node {
	t.Helper()
	l, f := parse.Parse(open(enough, enough), s)
	if f.Kind != api.OK {
		t.Fatalf("%.200q: %v", s, f)
	}
	return l
}

// tells is holds of a markup by great budgets, with the font F alone.
func tells(t *testing.T, s string) ([]api.Par, api.Fault) {
	t.Helper()
	return holds(t, "a markup", parsed(t, s), []string{"F"}, enough, enough)
}

// fails asks for that fault, and no paragraphs.
func fails(t *testing.T, s string, fonts []string, kind api.Errno, at int) {
	t.Helper()
	pars, f := holds(t, "wrong", parsed(t, s), fonts, enough, enough)
	if len(pars) != 0 || f != (api.Fault{Kind: kind, At: at}) {
		t.Errorf("%.200q in %q: %v, %v; want %d at %d", s, fonts, pars, f, kind, at)
	}
}

// short writes pieces in a few signs: runs by their letters, and - for blanks, ~ hard, = soft, / line.
func short(p api.Par) string {
	var l []string
	for _, x := range p.Pieces {
		s := []string{"?", "", "-", "~", "=", "/"}[x.Kind]
		for _, c := range x.Run.Chars {
			s += string(rune(c.Rune))
		}
		l = append(l, s)
	}
	return strings.Join(l, " ")
}

// Each of the chapter's examples.
func TestExamples(t *testing.T) {
	for inside, want := range map[string]string{
		"a b": "a - b", " a  <s> b </s> ": "a - b", "f<s>i</s>": "fi", `f<s size="12">i</s>`: "f i",
		"a <br/> b<br/>": "a / b /", "a&shy;b&nbsp;c": "a = b ~ c", "": "", " \n\t\r ": "",
	} {
		pars, f := tells(t, whole(inside))
		if f != (api.Fault{}) || len(pars) != 1 || short(pars[0]) != want || pars[0].Width != 100*point {
			t.Errorf("%q: %v, %v; want %s", inside, pars, f, want)
		}
	}
	s := whole(" a  <s> b </s> ")
	pars, _ := tells(t, s)
	at := strings.Index(s, " a  ")
	want := []api.Piece{
		{Kind: 1, From: at + 1, To: at + 2, Run: api.Run{Font: "F", Size: 10 * point, Chars: []api.Char{{Rune: 'a', From: at + 1, To: at + 2}}}},
		{Kind: 2, From: at + 2, To: at + 8, Run: api.Run{Font: "F", Size: 10 * point}},
		{Kind: 1, From: at + 8, To: at + 9, Run: api.Run{Font: "F", Size: 10 * point, Chars: []api.Char{{Rune: 'b', From: at + 8, To: at + 9}}}},
	}
	if !reflect.DeepEqual(pars[0].Pieces, want) {
		t.Error(pars)
	}
	s = whole(`<s font="G">a</s>`)
	fails(t, s, []string{"F"}, 110, strings.Index(s, "<s"))
	s = `<doc width="1" height="1"><p>a</p></doc>`
	fails(t, s, []string{"F"}, 111, strings.Index(s, "a</p"))
}

// P11.1: all rows of a few parts, in a document with a font.
func TestRows(t *testing.T) {
	parts := []string{"a", " ", "&nbsp;", "&shy;", "<br/>", "<s>", `<s size="12">`, `<s font="G">`, "</s>"}
	came := 0
	var grow func(s string, open, more int)
	grow = func(s string, open, more int) {
		l := parsed(t, whole(s+strings.Repeat("</s>", open)))
		holds(t, "a row", l, []string{"F", "G"}, enough, enough)
		came++
		if t.Failed() {
			t.FailNow()
		}
		if more == 0 {
			return
		}
		for _, part := range parts {
			switch {
			case part == "</s>" && open == 0:
			case part == "</s>":
				grow(s+part, open-1, more-1)
			case part[0] == '<' && part != "<br/>":
				grow(s+part, open+1, more-1)
			default:
				grow(s+part, open, more-1)
			}
		}
	}
	grow("", 0, 4)
	grow("a ", 0, 4)
	grow("a <s>", 1, 3)
	grow(`<s size="12">a</s> `, 0, 3)
	if came < 10000 {
		t.Error(came)
	}
}

// P11.1: where blanks make a piece, and where none.
func TestBlanks(t *testing.T) {
	for inside, want := range map[string]string{
		"a\t\n\r b": "a - b", "a&#x20;&#x9;b": "a - b", "a\u2003\u000B\u0085b": "a\u2003\u000B\u0085b",
		" &nbsp; ": "~", " &shy; ": "=", "&nbsp; &nbsp;": "~ - ~", "&shy; a": "= - a", "a &shy;": "a - =",
		"&nbsp;&nbsp;": "~ ~", "&shy;&shy;": "= =", "a&nbsp;<s>&nbsp;</s>": "a ~ ~",
		" <br/> ": "/", "<br/> <br/>": "/ /", " <br/> <br/> a": "/ / a", "a <s> <br/> </s> b": "a / b",
		"a <br/>&nbsp; b": "a / ~ - b", "a<br/>b": "a / b", "a<s></s><br/><s></s> b": "a / b",
		"a<s> <s> <s> </s> </s> </s>": "a", "<s> <s> <s> </s> </s> </s>a": "a", "a<s> <s> <s> </s> </s> </s>b": "a - b",
		`a <s size="12"> </s>b`: "a - b", `a<s size="12"> </s> b`: "a - b", `a <s size="12"></s> b`: "a - b",
	} {
		if pars, f := tells(t, whole(inside)); f.Kind != 0 || short(pars[0]) != want {
			t.Errorf("%q: %v, %v; want %s", inside, pars, f, want)
		}
	}
	// What ends a paragraph begins none of the next one's.
	pars, f := tells(t, `<doc width="1" height="1" font="F"><p>a </p><p> b</p><p> </p><p></p><p>c<br/></p><p>d</p></doc>`)
	if f.Kind != 0 || len(pars) != 6 {
		t.Fatal(pars, f)
	}
	for n, want := range []string{"a", "b", "", "", "c /", "d"} {
		if short(pars[n]) != want {
			t.Error(n, pars[n])
		}
	}
}

// P11.1: each piece's font and size are those of its first character, or of its br.
func TestFaces(t *testing.T) {
	s := `<doc width="1" height="1" font="F"><p>a<s font="G" size="12"> </s> b<s size="3">&nbsp;<s font="G">&shy;<br/></s>c</s></p></doc>`
	pars, f := holds(t, "faces", parsed(t, s), []string{"G", "F"}, enough, enough)
	if f.Kind != 0 {
		t.Fatal(f)
	}
	var got []string
	for _, p := range pars[0].Pieces {
		got = append(got, p.Run.Font+strconv.Itoa(p.Run.Size/point))
	}
	if want := "F10 G12 F10 F3 G3 G3 F3"; strings.Join(got, " ") != want {
		t.Errorf("%v; want %s", got, want)
	}
	// A br needs no font.
	pars, f = holds(t, "no font", parsed(t, `<doc width="1" height="1" size="7"><p><br/><s></s></p><p size="8"><s><br/></s></p></doc>`), nil, enough, enough)
	if f.Kind != 0 || len(pars) != 2 || pars[0].Pieces[0].Run.Font != "" || pars[0].Pieces[0].Run.Size != 7*point || pars[1].Pieces[0].Run.Size != 8*point {
		t.Error(pars, f)
	}
	// Letters of one font and one size are one run, whatever has said so.
	pars, f = tells(t, whole(`a<s font="F">b</s><s size="10">c<s font="F" size="655360sp">d</s></s><s size="12"><s size="10">e</s></s>`))
	if f.Kind != 0 || short(pars[0]) != "abcde" {
		t.Error(pars, f)
	}
	pars, f = holds(t, "other fonts", parsed(t, whole(`a<s font="G">b</s>c<s font="f">d</s>`)), []string{"f", "F", "G"}, enough, enough)
	if f.Kind != 0 || short(pars[0]) != "a b c d" {
		t.Error(pars, f)
	}
}

// P11.1: what a paragraph has of itself, of the document, or of neither; noughts that are said hold.
func TestParagraphs(t *testing.T) {
	pars, f := tells(t, `<doc width="9" height="1"><p></p><p lead="1" skip="2" tol="3"></p><p lead="0" tol="0"></p></doc>`)
	want := []api.Par{
		{Width: 9 * point, Lead: 12 * point, Skip: 0, Tol: 200, At: 26, End: 33},
		{Width: 9 * point, Lead: point, Skip: 2 * point, Tol: 3, At: 33, End: 66},
		{Width: 9 * point, Lead: 0, Skip: 0, Tol: 0, At: 66, End: 90},
	}
	if f.Kind != 0 || !same(pars, want) {
		t.Error(pars, f)
	}
	pars, f = tells(t, `<doc width="9" height="1" lead="0" skip="5" tol="0"><p></p><p lead="1"></p><p skip="0"></p><p tol="10000"></p></doc>`)
	for n, want := range []api.Par{{Lead: 0, Skip: 5 * point, Tol: 0}, {Lead: point, Skip: 5 * point, Tol: 0}, {Lead: 0, Skip: 0, Tol: 0}, {Lead: 0, Skip: 5 * point, Tol: 10000}} {
		if f.Kind != 0 || pars[n].Lead != want.Lead || pars[n].Skip != want.Skip || pars[n].Tol != want.Tol {
			t.Error(n, pars[n], f)
		}
	}
	if pars, f = tells(t, `<doc width="9" height="1"></doc>`); len(pars) != 0 || f.Kind != 0 {
		t.Error(pars, f)
	}
}

// P11.1: nodes that are no document are tree's matter, for no charge, whatever the meter is.
func TestNoDocument(t *testing.T) {
	many := parsed(t, whole("<s>"+strings.Repeat("<br/>", 8189)+"</s>"))
	many = append(many, api.Node{Kind: 5, Parent: 2})
	deep := parsed(t, whole(strings.Repeat("<s>", 30)+strings.Repeat("</s>", 30)))
	deep = append(deep, api.Node{Kind: 3, Parent: len(deep) - 1})
	twice := append(parsed(t, whole("a")), api.Node{Kind: 4, Parent: 1, Chars: []api.Char{{Rune: 'a'}}})
	for n, l := range [][]api.Node{nil, {}, many, deep, twice, {{Kind: 2, At: 7}}, parsed(t, whole("a"))[1:], {{Kind: 1, Parent: -1, At: 5, Has: 1, Font: "G"}}} {
		_, e := tree.Check(l)
		for _, m := range []*meter.Meter{open(0, 0), open(enough, enough), refused(true), refused(false)} {
			ahead := counts(m)
			pars, f := style.Pars(m, l, nil)
			if len(pars) != 0 || e == api.OK || f != (api.Fault{Kind: e}) || counts(m) != ahead {
				t.Errorf("%d: %v, %v; want %d; %v, ahead %v", n, pars, f, e, counts(m), ahead)
			}
		}
	}
	if _, f := style.Pars(open(0, 0), many, nil); f != (api.Fault{Kind: 91}) {
		t.Error(f)
	}
}

// refused is a meter that has refused a step, or a cell.
func refused(step bool) *meter.Meter {
	m := open(5, 5)
	if step {
		m.Step(6)
	} else {
		m.Hold(6)
	}
	return m
}

// P11.1: ErrStyleFont, at each kind of node that may have one, with characters in it or none.
func TestFonts(t *testing.T) {
	for _, s := range []string{
		`<doc width="1" height="1" font="G"></doc>`, `<doc width="1" height="1" font="G"><p font="F">a</p></doc>`,
		`<doc width="1" height="1" font="F"><p font="G"></p></doc>`, `<doc width="1" height="1"><p font="G">a</p></doc>`, `<doc width="1" height="1"><p font="G"><s font="F">a</s></p></doc>`,
		whole(`<s font="G"></s>`), whole(`<s font="G"> </s>`), whole(`<s font="G"><br/></s>`), whole(`a<s font="F">b<s font="G">c</s></s>`), whole(`a<s font="G">b</s><s font="H">c</s>`),
	} {
		at := strings.LastIndexByte(s[:strings.Index(s, `font="G"`)], '<')
		for _, fonts := range [][]string{{"F"}, {"F", "g", "", "GG", "\xFF", " G", "G "}} {
			fails(t, s, fonts, 110, at)
		}
		if _, f := holds(t, "all there", parsed(t, s), []string{"H", "F", "F", "G"}, enough, enough); f.Kind != 0 {
			t.Errorf("%s: %v", s, f)
		}
	}
	fails(t, whole("a"), nil, 110, 0)
	fails(t, whole("a"), []string{""}, 110, 0)
	fails(t, whole("a"), []string{"G"}, 110, 0)
	long := strings.Repeat("x", 32)
	s := whole(`<s font="` + long + `">a</s>`)
	fails(t, s, []string{"F", long[:31], long + "x"}, 110, strings.Index(s, "<s"))
	if _, f := holds(t, "long", parsed(t, s), []string{"F", long}, enough, enough); f.Kind != 0 {
		t.Error(f)
	}
}

// P11.1: ErrStyleNone, at the first text for which no node has a font.
func TestNone(t *testing.T) {
	first := `<doc width="1" height="1">`
	for _, inside := range []string{
		"<p>|a</p>", "<p>| </p>", "<p>|&shy;</p>", `<p><br/><s size="1">|&#xA;</s></p>`, `<p><s font="F">a</s>|b</p>`, `<p font="F">a</p><p>|a</p>`, `<p></p><p>|a<s font="G">b</s></p>`, `<p><s><s font="F">a</s>| </s></p>`,
	} {
		s := first + strings.Replace(inside, "|", "", 1) + "</doc>"
		fails(t, s, []string{"F"}, 111, len(first)+strings.Index(inside, "|"))
	}
	// The first fault of both is told.
	fails(t, first+`<p><s font="G"></s>a</p></doc>`, []string{"F"}, 110, len(first)+3)
	fails(t, first+`<p>a<s font="G"></s></p></doc>`, []string{"F"}, 111, len(first)+3)
}

// P11.1: a piece is charged at the node of its first character, a blank one too, whatever says later whether it is one; nothing behind a refusal is.
func TestCharges(t *testing.T) {
	for _, x := range []struct {
		inside string
		cells  int // of what is ahead of the span with a font that there is not
	}{
		{`<s font="G"></s>`, 0}, {` <s font="G">a</s>`, 0}, {`a<s font="G"></s>`, 1}, {`a <s font="G"></s>`, 1}, {`a <s font="G">b</s>`, 2}, {`a <s font="G"></s>b`, 2},
		{`a <s font="G"></s><br/>b`, 1}, {`a <s font="G"> </s> `, 1}, {`a <s font="G"> </s> b`, 2}, {`a <s font="G"> <br/></s>b`, 1}, {`a <s> </s> <s font="G">b</s>`, 2},
		{`<br/> <s font="G">b</s>`, 1}, {`<br/> <s font="G"></s>`, 1}, {`a <s font="G">&nbsp;</s>`, 2}, {`a <s font="G">&shy;</s>`, 2}, {`a<br/><s font="G"></s>`, 2},
	} {
		s := whole(x.inside)
		l, at := parsed(t, s), strings.Index(s, `<s font="G"`)
		for cells := range x.cells + 2 {
			_, f := holds(t, "ahead of a fault", l, []string{"F"}, enough, cells)
			want := api.Fault{Kind: 110, At: at}
			if cells < x.cells {
				want = api.Fault{Kind: 21}
			}
			if f != want {
				t.Errorf("%s by %d cells: %v; want %v", x.inside, cells, f, want)
			}
		}
	}
	// What stands in the next paragraph, or behind it, says nothing of this one's blanks.
	l := parsed(t, `<doc width="1" height="1" font="F"><p>a </p><p font="G">b</p></doc>`)
	if _, f := holds(t, "the next one", l, []string{"F"}, enough, 1); f.Kind != 110 {
		t.Error(f)
	}
	// A meter that has counted goes on; one that has refused goes on refusing.
	l = parsed(t, whole("a b<br/>"))
	m := open(10, 10)
	m.Step(5)
	m.Hold(6)
	if pars, f := style.Pars(m, l, []string{"F"}); len(pars) != 1 || f.Kind != 0 || counts(m) != (counted{9, 10, 10, 0}) {
		t.Error(pars, f, counts(m))
	}
	if pars, f := style.Pars(m, l, []string{"F"}); len(pars) != 0 || f != (api.Fault{Kind: 20}) || counts(m) != (counted{10, 10, 10, 20}) {
		t.Error(pars, f, counts(m))
	}
	for step, kind := range map[bool]api.Errno{true: 20, false: 21} {
		m := refused(step)
		ahead := counts(m)
		if pars, f := style.Pars(m, l, []string{"G"}); len(pars) != 0 || f != (api.Fault{Kind: kind}) || counts(m) != ahead {
			t.Error(step, pars, f, counts(m))
		}
	}
}

// P11.1: all budgets of short documents.
func TestBudgets(t *testing.T) {
	for _, s := range []string{
		`<doc width="1" height="1"></doc>`, whole(""), whole(" "), whole("a b"), whole(" a  <s> b </s> "), whole("a <br/> b<br/>"), whole("a&shy;b&nbsp;c"), whole("<br/><br/>"),
		whole(`a <s font="G">b</s>`), whole(`<s size="1">a</s><s size="2"> </s>b`), `<doc width="1" height="1"><p font="F">a b</p><p><br/>c</p></doc>`,
	} {
		l := parsed(t, s)
		whole := open(enough, enough)
		style.Pars(whole, l, []string{"F"})
		for steps := range whole.Steps() + 2 {
			for cells := range whole.Peak() + 2 {
				holds(t, "a budget", l, []string{"F"}, steps, cells)
			}
		}
	}
	r := &numbers{11}
	for range 1500 {
		l, fonts := r.draft().nodes(), r.names()
		m := open(enough, enough)
		_, f := style.Pars(m, l, fonts)
		if _, same := holds(t, "just enough", l, fonts, m.Steps(), m.Peak()); same != f {
			t.Error(same, f)
		}
		if m.Steps() > 0 {
			if _, f := holds(t, "a step less", l, fonts, m.Steps()-1, m.Peak()); f != (api.Fault{Kind: 20}) {
				t.Error(f)
			}
		}
		if m.Peak() > 0 {
			if _, f := holds(t, "a cell less", l, fonts, m.Steps(), m.Peak()-1); f != (api.Fault{Kind: 21}) {
				t.Error(f)
			}
		}
		holds(t, "any budget", l, fonts, r.below(m.Steps()+1), r.below(m.Peak()+1))
	}
}

// P11.1: documents as they come, with any places.
func TestDrafts(t *testing.T) {
	r := &numbers{3}
	came := map[api.Errno]int{}
	for range 6000 {
		l, fonts := r.draft().nodes(), r.names()
		if !isDocument(l) {
			t.Fatal(l)
		}
		_, f := holds(t, "a draft", l, fonts, enough, enough)
		came[f.Kind]++
		holds(t, "elsewhere", r.elsewhere(l), fonts, enough, enough)
		if t.Failed() {
			t.FailNow()
		}
	}
	if came[0] < 1000 || came[110] < 1000 || came[111] < 100 {
		t.Error(came)
	}
}

// P11.2: spans that say nothing, or what holds already, change nothing.
func TestSilent(t *testing.T) {
	r := &numbers{5}
	fonts := []string{"F", "G", "H"}
	came := 0
	for range 4000 {
		d := r.draft()
		l, other := d.nodes(), r.silent(d).nodes()
		if !isDocument(other) {
			t.Fatal(other)
		}
		a, f := style.Pars(open(enough, enough), l, fonts)
		b, g := style.Pars(open(enough, enough), other, fonts)
		if f.Kind != g.Kind || !same(a, b) {
			s, _ := tree.Print(l)
			z, _ := tree.Print(other)
			t.Fatalf("%s: %v, %v\n%s: %v, %v", s, a, f, z, b, g)
		}
		if f.Kind == 0 && len(l) != len(other) {
			came++
		}
	}
	if came < 1000 {
		t.Error(came)
	}
}

// flat writes a document's paragraph in a few signs, a blank for blanks side by side, without those at ends and at brs.
func flat(l []api.Node, par int) string {
	var b strings.Builder
	for _, s := range signs(l, par) {
		switch {
		case s.kind == 1:
			b.WriteRune(rune(s.char.Rune))
		default:
			b.WriteByte("\x00\x01 ~=/"[s.kind])
		}
	}
	s := b.String()
	for _, x := range [][2]string{{"  ", " "}, {" /", "/"}, {"/ ", "/"}} {
		for strings.Contains(s, x[0]) {
			s = strings.ReplaceAll(s, x[0], x[1])
		}
	}
	return strings.Trim(s, " ")
}

// P11.3: the pieces have all that a paragraph has, in its order, and no more of them than must be.
func TestWhole(t *testing.T) {
	r := &numbers{8}
	for range 4000 {
		l := r.draft().nodes()
		pars, f := style.Pars(open(enough, enough), l, []string{"F", "G", "H"})
		if f.Kind != 0 {
			continue
		}
		k := 0
		for n, x := range l {
			if x.Kind != 2 {
				continue
			}
			got := strings.ReplaceAll(strings.ReplaceAll(short(pars[k]), " ", ""), "-", " ")
			if want := flat(l, n); got != want {
				t.Fatalf("%q; want %q", got, want)
			}
			neighbours(t, pars[k].Pieces)
			k++
		}
		if k != len(pars) {
			t.Fatal(pars)
		}
	}
}

// neighbours holds each two pieces side by side against each other, and each piece's places.
func neighbours(t *testing.T, l []api.Piece) {
	t.Helper()
	for n, p := range l {
		chars := p.Run.Chars
		if p.From >= p.To || (p.Kind == 1) != (len(chars) > 0) || p.Kind == 1 && (p.From != chars[0].From || p.To != chars[len(chars)-1].To) {
			t.Fatal(p)
		}
		if n == 0 {
			continue
		}
		q := l[n-1]
		alike := p.Run.Font == q.Run.Font && p.Run.Size == q.Run.Size
		if q.To > p.From || p.Kind == 2 && q.Kind == 2 || p.Kind == 1 && q.Kind == 1 && alike {
			t.Fatal(q, p)
		}
	}
}

// P11.4: more names change no answer but ErrStyleFont.
func TestMoreNames(t *testing.T) {
	r := &numbers{13}
	for range 2000 {
		l, fonts := r.draft().nodes(), r.names()
		m, other := open(enough, enough), open(enough, enough)
		a, f := style.Pars(m, l, fonts)
		if f.Kind == 110 {
			continue
		}
		more := slices.Insert(slices.Clone(fonts), r.below(len(fonts)+1), of(r, "G", "H", "", "\xFF", "I", "f"))
		if b, g := style.Pars(other, l, more); g != f || !same(a, b) || counts(m) != counts(other) {
			t.Fatalf("%q: %v, %v; %q: %v, %v", fonts, a, f, more, b, g)
		}
	}
}

// R1: any nodes, and documents with one thing changed.
func TestAny(t *testing.T) {
	r := &numbers{17}
	came := map[api.Errno]int{}
	for n := range 12000 {
		l := r.any()
		if n%2 == 0 {
			l = r.torn(r.draft().nodes())
		}
		_, e := tree.Check(l)
		came[e]++
		m := open(r.below(30), r.below(30))
		if e == api.OK {
			holds(t, "any", l, r.names(), r.below(30), r.below(30))
		} else if pars, f := style.Pars(m, l, r.names()); len(pars) != 0 || f != (api.Fault{Kind: e}) || counts(m) != (counted{}) {
			t.Fatal(pars, f, counts(m))
		}
	}
	if came[0] < 1000 || came[90] < 1000 {
		t.Error(came)
	}
}

// great are documents at the limits, and long ones.
func great() map[string]string {
	deep := ""
	for n := range 30 {
		deep += `<s size="` + strconv.Itoa(1+n) + `">x `
	}
	return map[string]string{
		"many runs":      strings.Repeat(`<s size="1">a</s>b`, 2730),
		"many spans":     strings.Repeat("<s>a </s>", 4095),
		"blanks at last": "a" + strings.Repeat("<s> </s>", 4094),
		"blanks between": "a" + strings.Repeat("<s> </s>", 4093) + "b",
		"brs":            strings.Repeat("<br/>", 8190),
		"deep":           deep + strings.Repeat("</s>y ", 30),
		"long blanks":    "a" + strings.Repeat(" ", 60000),
		"long run":       strings.Repeat("ab", 40000),
		"many pieces":    strings.Repeat("a &nbsp;", 10000) + "&shy;",
	}
}

// P11.1: documents of many nodes, deep ones, long ones.
func TestGreat(t *testing.T) {
	for what, inside := range great() {
		l := parsed(t, whole(inside))
		pars, f := holds(t, what, l, []string{"F"}, enough, enough)
		if f.Kind != 0 || len(pars) != 1 {
			t.Error(what, len(pars), f)
		}
		m := open(enough, enough)
		style.Pars(m, l, []string{"F"})
		holds(t, what, l, []string{"F"}, m.Steps(), m.Peak()-1)
	}
	many := `<doc width="1" height="1" font="F">` + strings.Repeat("<p> </p>", 4095) + "</doc>"
	if pars, f := holds(t, "many paragraphs", parsed(t, many), []string{"F"}, enough, 0); len(pars) != 4095 || f.Kind != 0 {
		t.Error(len(pars), f)
	}
}

// spare fills the room behind a list's end, and tells whether it is still filled so.
func spare[T any](l []T, fill T) ([]T, func() bool) {
	l = append(l, fill, fill, fill)
	room := l[len(l)-3:]
	return l[:len(l)-3], func() bool {
		for _, x := range room {
			if !reflect.DeepEqual(x, fill) {
				return false
			}
		}
		return true
	}
}

// R4: what is handed in stays as it was, with the room behind it.
func TestHandedIn(t *testing.T) {
	r := &numbers{19}
	for range 500 {
		l, untouched := spare(r.draft().nodes(), api.Node{Kind: 9})
		var rooms []func() bool
		for n := range l {
			var room func() bool
			l[n].Chars, room = spare(l[n].Chars, api.Char{Rune: 9})
			rooms = append(rooms, room)
		}
		fonts, names := spare(r.names(), "spare")
		was, words := copied(l), slices.Clone(fonts)
		pars, _ := style.Pars(open(enough, enough), l, fonts)
		scribble(pars)
		if !tree.Same(l, was) || !reflect.DeepEqual(l, was) && !samePlaces(l, was) || !slices.Equal(fonts, words) || !untouched() || !names() {
			t.Fatal("what was handed in is no more what it was")
		}
		for _, room := range rooms {
			if !room() {
				t.Fatal("the room behind a text is no more what it was")
			}
		}
	}
}

func samePlaces(a, b []api.Node) bool {
	return slices.EqualFunc(a, b, func(x, y api.Node) bool {
		return x.At == y.At && x.End == y.End && slices.Equal(x.Chars, y.Chars)
	})
}

// scribble writes over all of an answer, and the room behind its lists.
func scribble(pars []api.Par) {
	for _, p := range pars[:cap(pars)] {
		for _, x := range p.Pieces[:cap(p.Pieces)] {
			chars := x.Run.Chars[:cap(x.Run.Chars)]
			for n := range chars {
				chars[n] = api.Char{Rune: math.MinInt, From: 1, To: 2}
			}
		}
		pieces := p.Pieces[:cap(p.Pieces)]
		for n := range pieces {
			pieces[n] = api.Piece{Kind: 7, From: 1}
		}
	}
	all := pars[:cap(pars)]
	for n := range all {
		all[n] = api.Par{Width: 7}
	}
}

// R4, R5: an answer is the caller's: what is written there is seen in no other one, and in none of its own lists.
func TestAnswered(t *testing.T) {
	l := parsed(t, `<doc width="1" height="1" font="F"><p>ab cd<s size="3">ef</s><br/></p><p>gh ij</p><p>kl</p></doc>`)
	first, _ := style.Pars(open(enough, enough), l, []string{"F"})
	want, _ := holds(t, "ahead", l, []string{"F"}, enough, enough)
	scribble(first)
	if again, f := holds(t, "behind", l, []string{"F"}, enough, enough); f.Kind != 0 || !same(again, want) {
		t.Error(again, f)
	}
	// Each list in turn is written over, with its room; all others stay.
	for p := range want {
		for n := range want[p].Pieces {
			pars, _ := style.Pars(open(enough, enough), l, []string{"F"})
			chars := pars[p].Pieces[n].Run.Chars
			chars = chars[:cap(chars)]
			for k := range chars {
				chars[k].Rune = -1
			}
			pars[p].Pieces[n].Run.Chars = want[p].Pieces[n].Run.Chars
			if !same(pars, want) {
				t.Error("a run's characters are another one's", p, n)
			}
		}
		pars, _ := style.Pars(open(enough, enough), l, []string{"F"})
		pieces := pars[p].Pieces[:cap(pars[p].Pieces)]
		for k := range pieces {
			pieces[k] = api.Piece{Kind: -1}
		}
		pars[p].Pieces = want[p].Pieces
		if !same(pars, want) {
			t.Error("a paragraph's pieces are another one's", p)
		}
	}
}

// R5: many goroutines may ask of one document.
func TestSideBySide(t *testing.T) {
	l, fonts := parsed(t, whole(strings.Repeat(`a <s font="G">b <br/> c</s>`, 20))), []string{"F", "G"}
	want, fault := style.Pars(open(enough, enough), l, fonts)
	var all sync.WaitGroup
	for range 8 {
		all.Go(func() {
			for range 100 {
				if pars, f := style.Pars(open(enough, enough), l, fonts); f != fault || !same(pars, want) {
					t.Error(pars, f)
				}
			}
		})
	}
	all.Wait()
}
