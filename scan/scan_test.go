package scan_test

import (
	"math"
	"reflect"
	"slices"
	"strings"
	"sync"
	"testing"
	"unicode/utf8"

	"platen/api"
	"platen/meter"
	"platen/runes"
	"platen/scan"
)

const enough = 1 << 40

func open(t *testing.T, steps, cells int) *meter.Meter {
	t.Helper()
	m, e := meter.New(steps, cells)
	if e != api.OK {
		t.Fatalf("no meter of %d and %d", steps, cells)
	}
	return m
}

func counts(m *meter.Meter) counted { return counted{m.Steps(), m.Held(), m.Peak(), m.Refused()} }

// same holds tokens against each other; no tokens, and no characters, are one with nil.
func same(a, b []api.Token) bool {
	return slices.EqualFunc(a, b, func(x, y api.Token) bool {
		if !slices.Equal(x.Chars, y.Chars) {
			return false
		}
		x.Chars, y.Chars = nil, nil
		return reflect.DeepEqual(x, y)
	})
}

// cuts holds Scan by great budgets against the model.
func cuts(t *testing.T, what, s string) judged {
	t.Helper()
	w := judge(s)
	_, c := w.under(enough, enough)
	m := open(t, enough, enough)
	l, f := scan.Scan(m, s)
	if !same(l, w.tokens) || f != w.fault || counts(m) != c {
		t.Errorf("%s: %.40q (%d bytes): %v, %v, %v; want %v, %v, %v", what, s, len(s), l, f, counts(m), w.tokens, w.fault, c)
	}
	return w
}

// holds holds Scan on that meter against the model by so many steps and cells.
func holds(t *testing.T, m *meter.Meter, s string, steps, cells int) {
	t.Helper()
	was := counts(m)
	w, c := judge(s).under(steps, cells)
	l, f := scan.Scan(m, s)
	want := counted{was.steps + c.steps, was.held + c.held, max(was.peak, was.held+c.peak), c.refused}
	if !same(l, w.tokens) || f != w.fault || counts(m) != want {
		t.Errorf("%q by %d and %d: %v, %v, %v; want %v, %v, %v", s, steps, cells, l, f, counts(m), w.tokens, w.fault, want)
	}
}

// The chapter's examples.
func TestExamples(t *testing.T) {
	for s, want := range map[string][]api.Token{
		`<p a="b&lt;">x&amp;y</p>`: {
			{Kind: 1, At: 0, End: 2, Name: "p"},
			{Kind: 2, At: 3, End: 12, Name: "a", Value: "b<"},
			{Kind: 3, At: 12, End: 13},
			{Kind: 5, At: 13, End: 20, Chars: []api.Char{{Rune: 'x', From: 13, To: 14}, {Rune: '&', From: 14, To: 19}, {Rune: 'y', From: 19, To: 20}}},
			{Kind: 4, At: 20, End: 24, Name: "p"},
		},
		"<br />": {{Kind: 1, At: 0, End: 3, Name: "br"}, {Kind: 3, At: 4, End: 6, Empty: true}},
		"":       nil,
		`a>"b`:   {{Kind: 5, At: 0, End: 4, Chars: []api.Char{{Rune: 'a', From: 0, To: 1}, {Rune: '>', From: 1, To: 2}, {Rune: '"', From: 2, To: 3}, {Rune: 'b', From: 3, To: 4}}}},
	} {
		m := open(t, enough, enough)
		l, f := scan.Scan(m, s)
		if !same(l, want) || f != (api.Fault{}) || counts(m) != (counted{len(s), len(want), len(want), 0}) {
			t.Errorf("%q: %v, %v, %v", s, l, f, counts(m))
		}
		cuts(t, "example", s)
	}
	for _, x := range []struct {
		s    string
		kind api.Errno
		at   int
	}{
		{"a<", 70, 2}, {"<1", 70, 1}, {"<p a", 70, 4}, {`<p a="b"c`, 70, 8}, {"< p>", 70, 1}, {"</p >", 70, 3}, {"<\xFF", 70, 1},
		{"&lx", 71, 2}, {"&", 71, 1}, {"&#xD800;", 71, 7}, {"&#x110000;", 71, 8}, {"&#x;", 71, 3}, {"&#x0000041;", 71, 9},
		{"\xE2\x82<", 40, 2}, {"\xE2", 40, 1}, {"\xFF", 40, 0}, {"<p a=\"\xE2", 40, 7},
		{"<" + strings.Repeat("q", 257), 72, 257}, {`<p a="` + strings.Repeat("é", 256) + "&", 72, 518},
	} {
		m := open(t, enough, enough)
		l, f := scan.Scan(m, x.s)
		if len(l) != 0 || f != (api.Fault{Kind: x.kind, At: x.at}) || m.Steps() != min(x.at+1, len(x.s)) {
			t.Errorf("%.20q: %v, %v, %v", x.s, l, f, counts(m))
		}
		cuts(t, "example", x.s)
	}
	if s, e := scan.Text([]api.Char{{Rune: 'a'}, {Rune: '<'}, {Rune: 0xAD}}); s != "a&lt;&shy;" || e != api.OK {
		t.Errorf("Text: %q, %d", s, e)
	}
	if s, e := scan.Value(`"`); s != "&quot;" || e != api.OK {
		t.Errorf("Value: %q, %d", s, e)
	}
}

// P7.1: at each kind of place each byte (in long values those that differ), and the end; with nothing behind it, and with what would go on.
func TestPlaces(t *testing.T) {
	kinds := map[api.Errno]int{}
	var all []byte
	for b := range 256 {
		all = append(all, byte(b))
	}
	for _, p := range places() {
		if w := cuts(t, "a beginning", p); w.fault.Kind != api.OK && w.fault.At != len(p) {
			t.Errorf("%.40q is no beginning: %v", p, w.fault)
		}
		bytes := all
		if len(p) > 300 {
			bytes = []byte("\"<&;>/= aLg0fx#\x00\x7F\x80\x8F\x90\x9F\xA0\xBF\xC2\xE0\xF4\xFF")
		}
		for _, b := range bytes {
			s := p + string([]byte{b})
			kinds[cuts(t, "a byte", s).fault.Kind]++
			if len(p) <= 300 {
				cuts(t, "a byte, and more", s+`t;">`)
			}
		}
		if t.Failed() {
			t.FailNow()
		}
	}
	for _, e := range []api.Errno{0, 40, 70, 71, 72} {
		if kinds[e] < 500 {
			t.Errorf("%d came %d times only", e, kinds[e])
		}
	}
}

// P7.1: all short texts of the signs that mean something.
func TestShort(t *testing.T) {
	signs := "<>/=\"& a;\xC3\xA9"
	var grow func(s string, n int)
	grow = func(s string, n int) {
		cuts(t, "short", s)
		for at := range len(signs) {
			if n > 0 && !t.Failed() {
				grow(s+signs[at:at+1], n-1)
			}
		}
	}
	grow("", 4)
	grow(`<a a="`, 3)
	grow("<a", 3)
}

// P7.1: the named edges. Names and values as long as they may be, and longer; numbers at both sides of what is a rune.
func TestEdges(t *testing.T) {
	long := func(n int) string { return strings.Repeat("ab", n/2) + strings.Repeat("c", n%2) }
	for _, n := range []int{1, 255, 256, 257, 300, 1000} {
		for _, s := range []string{"<" + long(n) + ">", "<" + long(n) + "1", "<" + long(n), "</" + long(n) + ">", "</" + long(n) + " ", "<p " + long(n) + `="">`, "<p " + long(n) + ">", "<p " + long(n), `<p a="" ` + long(n) + `="" b="">`} {
			w := cuts(t, "a name", s)
			if (w.fault.Kind == api.ErrScanLong) != (n > 256) {
				t.Errorf("a name of %d: %v", n, w.fault)
			}
		}
		for _, c := range []string{"a", "é", "€", "\U0001F600", "&lt;", "&quot;", "&#x10FFFF;", "&#x0;", " ", ">"} {
			for _, behind := range []string{`"/>`, "<", "&", "\xFF", "\xC3", "", `x"/>`, `"`} {
				w := cuts(t, "a value", `<p a="`+strings.Repeat(c, n)+behind)
				if n > 256 && w.fault.Kind != api.ErrScanLong {
					t.Errorf("a value of %d: %v", n, w.fault)
				}
			}
		}
	}
	for _, n := range []string{"0", "00", "000000", "0000000", "7F", "80", "41", "d7ff", "D7FF", "00D7FF", "D800", "0D800", "00D800", "dbFF", "DC00", "DFFF", "00DFFF", "D8000", "0D8000", "DFFFFF", "E000", "00e000", "FFFF", "10000", "10FFFF", "10ffff", "110000", "FFFFFF", "1000000", "g", "-1", "+1", "x1", "X41", " 41", "41 "} {
		for _, s := range []string{"&#x" + n + ";", "a&#x" + n + ";b", `<p a="&#x` + n + `;">`, "&#x" + n, "&#X" + n + ";", "&#" + n + ";"} {
			cuts(t, "a number", s)
		}
	}
	for _, name := range []string{"lt", "gt", "amp", "quot", "shy", "nbsp", "LT", "Lt", "apos", "ltt", "l", ""} {
		for _, s := range []string{"&" + name + ";", "&" + name, "&" + name + " ;", `<p a="&` + name + `;">`, `<p a="&` + name + `">`, "&" + name + "<p>", "&" + name + "\xFF"} {
			cuts(t, "an entity", s)
		}
	}
}

// P7.1, P7.2: each rune as it is in a text and in a value, and by its number.
func TestRunes(t *testing.T) {
	const some = 4096
	for low := 0; low < 0x110000; low += some {
		var text strings.Builder
		var want []int
		for r := low; r < low+some; r++ {
			if utf8.ValidRune(rune(r)) && r != '<' && r != '&' {
				text.WriteRune(rune(r))
				want = append(want, r)
			}
		}
		l, f := scan.Scan(open(t, enough, enough), text.String())
		if len(want) == 0 {
			continue
		}
		if f != (api.Fault{}) || len(l) != 1 || !slices.Equal(without(l[0].Chars), want) {
			t.Fatalf("from %x on: %v", low, f)
		}
	}
	for r := range 0x110000 {
		if r >= 0x3000 && r%61 != 0 && r&0xFF00 != 0xD700 && r&0xFF00 != 0xE000 {
			continue
		}
		s := "&#x" + strings.ToUpper(string(hex(r))) + ";"
		l, f := scan.Scan(open(t, enough, enough), s)
		if right := f == (api.Fault{}) && len(l) == 1 && slices.Equal(l[0].Chars, []api.Char{{Rune: r, From: 0, To: len(s)}}); right != utf8.ValidRune(rune(r)) {
			t.Errorf("%s: %v, %v", s, l, f)
		}
	}
}

func hex(r int) []byte {
	var b []byte
	for ; r > 0; r /= 16 {
		b = append([]byte{"0123456789abcdef"[r%16]}, b...)
	}
	return append([]byte("0")[:max(0, 1-len(b))], b...)
}

// P7.1, P7.5: markups of all kinds; these torn, and shreds.
func TestAny(t *testing.T) {
	r := &numbers{state: 71}
	kinds := map[api.Errno]int{}
	longest := 0
	for n := range 30000 {
		s := r.markup()
		if n%3 == 1 {
			s = r.torn(s)
		}
		if n%3 == 2 {
			s = r.some(12, r.shred)
		}
		w := cuts(t, "any", s)
		kinds[w.fault.Kind]++
		longest = max(longest, len(w.tokens))
		if n%3 == 0 && w.fault != (api.Fault{}) {
			t.Errorf("%q is a markup: %v", s, w.fault)
		}
		if t.Failed() {
			t.FailNow()
		}
	}
	for _, e := range []api.Errno{0, 40, 70, 71} {
		if kinds[e] < 1000 {
			t.Errorf("%d came %d times only", e, kinds[e])
		}
	}
	if longest < 15 {
		t.Errorf("never more than %d tokens", longest)
	}
}

// P7.1: all budgets from none to more than is needed, on a meter that is new and on one that has been charged.
func TestBudgets(t *testing.T) {
	r := &numbers{state: 72}
	l := samples()
	for len(l) < 400 {
		if s := r.torn(r.markup()); len(s) < 40 {
			l = append(l, s)
		}
	}
	for _, s := range l {
		n := len(judge(s).charges)
		cells := strings.Count(judge(s).charges, "c")
		for steps := range n - cells + 2 {
			for cells := range cells + 2 {
				holds(t, open(t, steps, cells), s, steps, cells)
				m := open(t, steps+3, cells+4)
				m.Step(3)
				m.Hold(4)
				holds(t, m, s, steps, cells)
				m = open(t, steps, cells+4)
				m.Hold(4)
				m.Drop(4)
				was := m.Peak()
				w, c := judge(s).under(steps, cells+4)
				if _, f := scan.Scan(m, s); f != w.fault || counts(m) != (counted{c.steps, c.held, max(was, c.peak), c.refused}) {
					t.Errorf("%q behind a Drop: %v, %v", s, f, counts(m))
				}
			}
		}
		if t.Failed() {
			t.FailNow()
		}
	}
}

// P7.1: a meter that has refused refuses each charge; where none is asked, nothing is refused.
func TestRefused(t *testing.T) {
	for _, s := range samples() {
		for _, e := range []api.Errno{api.ErrMeterSteps, api.ErrMeterCells} {
			m := open(t, 5, 5)
			m.Step(2)
			m.Hold(1)
			if e == api.ErrMeterSteps {
				m.Step(9)
			} else {
				m.Hold(9)
			}
			was := counts(m)
			want := api.Fault{Kind: e}
			if s == "" {
				want = api.Fault{}
			}
			if l, f := scan.Scan(m, s); len(l) != 0 || f != want || counts(m) != was {
				t.Errorf("%q on a meter that has refused: %v, %v, %v", s, l, f, counts(m))
			}
		}
	}
	m := open(t, math.MaxInt, math.MaxInt)
	m.Step(math.MaxInt - 3)
	m.Hold(math.MaxInt - 1)
	if _, f := scan.Scan(m, "<p>a"); f != (api.Fault{Kind: 21}) || counts(m) != (counted{math.MaxInt, math.MaxInt, math.MaxInt, 21}) {
		t.Errorf("by the greatest budgets: %v, %v", f, counts(m))
	}
}

// P7.1: where the cell of a text, and of a TokOpen, is charged: ahead of the step of the byte behind it.
func TestCells(t *testing.T) {
	for _, x := range []struct {
		s            string
		steps, cells int
		kind         api.Errno
		done, held   int
	}{
		{"a<p>", 1, 0, 21, 1, 0},
		{"a<p>", 1, 1, 20, 1, 1},
		{"a", 1, 0, 21, 1, 0},
		{"a\xFF", 9, 0, 40, 2, 0},
		{"a\xFF", 1, 0, 20, 1, 0},
		{"a\xC3", 9, 0, 40, 2, 0},
		{"a\xC3<", 9, 0, 40, 3, 0},
		{"a&lt", 9, 0, 71, 4, 0},
		{"a&<", 9, 0, 71, 3, 0},
		{"<p", 9, 0, 21, 2, 0},
		{"<p", 2, 1, 70, 2, 1},
		{"<p\xFF", 9, 0, 21, 2, 0},
		{"<p\xFF", 2, 1, 20, 2, 1},
		{"<p\xFF", 3, 1, 70, 3, 1},
		{"<p1", 2, 0, 21, 2, 0},
		{"<p<", 3, 1, 70, 3, 1},
		{"<p=", 3, 0, 21, 2, 0},
		{"<1", 9, 0, 70, 2, 0},
		{"<", 9, 0, 70, 1, 0},
		{"</p", 9, 0, 70, 3, 0},
		{"</p>", 9, 0, 21, 4, 0},
		{"<p>", 9, 1, 21, 3, 1},
		{"<p/>", 9, 1, 21, 4, 1},
		{`<p a="">`, 9, 1, 21, 7, 1},
		{`<p a=""b`, 9, 2, 70, 8, 2},
		{"<" + strings.Repeat("q", 257), 300, 0, 72, 258, 0},
		{"<" + strings.Repeat("q", 256), 300, 0, 21, 257, 0},
		{"<" + strings.Repeat("q", 256) + "1", 300, 1, 70, 258, 1},
	} {
		m := open(t, x.steps, x.cells)
		l, f := scan.Scan(m, x.s)
		if len(l) != 0 || f.Kind != x.kind || m.Steps() != x.done || m.Held() != x.held {
			t.Errorf("%.10q by %d and %d: %v, %v, %v", x.s, x.steps, x.cells, l, f, counts(m))
		}
		holds(t, open(t, x.steps, x.cells), x.s, x.steps, x.cells)
	}
}

// P7.2: what Text and Value write, by numbers of their own.
func TestWrites(t *testing.T) {
	for _, x := range []struct {
		r           int
		text, value string
	}{
		{'<', "&lt;", "&lt;"}, {'>', "&gt;", "&gt;"}, {'&', "&amp;", "&amp;"}, {'"', `"`, "&quot;"}, {0xAD, "&shy;", "&shy;"}, {0xA0, "&nbsp;", "&nbsp;"},
		{0, "\x00", "\x00"}, {' ', " ", " "}, {'\n', "\n", "\n"}, {'\'', "'", "'"}, {';', ";", ";"}, {0x7F, "\x7F", "\x7F"}, {0x80, "\xC2\x80", "\xC2\x80"},
		{0x9F, "\xC2\x9F", "\xC2\x9F"}, {0xA1, "\xC2\xA1", "\xC2\xA1"}, {0xAC, "\xC2\xAC", "\xC2\xAC"}, {0xAE, "\xC2\xAE", "\xC2\xAE"}, {0xE9, "\xC3\xA9", "\xC3\xA9"},
		{0xD7FF, "\xED\x9F\xBF", "\xED\x9F\xBF"}, {0xE000, "\xEE\x80\x80", "\xEE\x80\x80"}, {0xFFFD, "\xEF\xBF\xBD", "\xEF\xBF\xBD"}, {0x10FFFF, "\xF4\x8F\xBF\xBF", "\xF4\x8F\xBF\xBF"},
	} {
		for _, places := range []api.Char{{}, {From: -5, To: 3}, {From: math.MaxInt, To: math.MinInt}} {
			places.Rune = x.r
			if s, e := scan.Text([]api.Char{{Rune: 'x'}, places}); s != "x"+x.text || e != api.OK {
				t.Errorf("Text of %x: %q, %d", x.r, s, e)
			}
		}
		if s, e := scan.Value("x" + string(rune(x.r))); s != "x"+x.value || e != api.OK {
			t.Errorf("Value of %x: %q, %d", x.r, s, e)
		}
	}
	for _, l := range [][]api.Char{nil, {}, make([]api.Char, 0, 5)} {
		if s, e := scan.Text(l); s != "" || e != api.OK {
			t.Errorf("Text of none: %q, %d", s, e)
		}
	}
	if s, e := scan.Value(""); s != "" || e != api.OK {
		t.Errorf("Value of none: %q, %d", s, e)
	}
}

// P7.2, R2, R8: what is refused, and with it nothing else is answered.
func TestWriteErrors(t *testing.T) {
	for _, r := range []int{-1, 0xD800, 0xDABC, 0xDFFF, 0x110000, math.MaxInt, math.MinInt, 1<<32 + 'a', -1<<32 + 'a', 1<<31 - 1, -1 << 31, 1 << 31} {
		for _, l := range [][]api.Char{{{Rune: r}}, {{Rune: 'a'}, {Rune: r}}, {{Rune: r}, {Rune: '<'}}, {{Rune: '<'}, {Rune: r, From: 1, To: 2}, {Rune: '<'}}} {
			if s, e := scan.Text(l); s != "" || e != api.ErrArg {
				t.Errorf("Text of %x: %q, %d", r, s, e)
			}
		}
	}
	for _, c := range []string{"a", "é", "€", "\U0001F600", `"`, "\uFFFD"} {
		for n, want := range map[int]api.Errno{255: api.OK, 256: api.OK, 257: api.ErrArg, 258: api.ErrArg, 70000: api.ErrArg} {
			s, e := scan.Value(strings.Repeat(c, n))
			if e != want || (s == "") != (e != api.OK) {
				t.Errorf("Value of %d times %s: %q, %d", n, c, s, e)
			}
		}
	}
	for _, s := range []string{"\xFF", "a\xC3", "\xC3\"", "\xED\xA0\x80", strings.Repeat("a", 256) + "\xFF", strings.Repeat("a", 300) + "\xFF", "\xFF" + strings.Repeat("a", 300), strings.Repeat("a", 255) + "\xE2\x82"} {
		if v, e := scan.Value(s); v != "" || e != api.ErrArg {
			t.Errorf("Value of %.10q: %q, %d", s, v, e)
		}
	}
	r := &numbers{state: 73}
	for range 20000 {
		s := r.some(8, r.shred)
		v, e := scan.Value(s)
		if right := runes.Check(s) == (api.Fault{}); right != (e == api.OK) || !right && v != "" {
			t.Errorf("Value of %q: %q, %d", s, v, e)
		}
	}
}

// P7.3: Scan of what Text wrote is one text of these runes.
func TestTextAndBack(t *testing.T) {
	back := func(l []api.Char) {
		t.Helper()
		s, e := scan.Text(l)
		got, f := scan.Scan(open(t, enough, enough), s)
		if len(l) == 0 && (len(got) != 0 || f != (api.Fault{})) {
			t.Errorf("of none: %v, %v", got, f)
		}
		if e != api.OK || f != (api.Fault{}) || len(l) > 0 && (len(got) != 1 || got[0].Kind != 5 || !slices.Equal(without(got[0].Chars), without(l))) {
			t.Errorf("%.40q: %d, %v", s, e, f)
		}
	}
	back(nil)
	var all []api.Char
	for r := range 0x110000 {
		if utf8.ValidRune(rune(r)) {
			all = append(all, api.Char{Rune: r})
		}
	}
	back(all)
	slices.Reverse(all)
	back(all)
	r := &numbers{state: 74}
	for range 5000 {
		var l []api.Char
		for _, x := range r.some(9, func() string {
			return r.of("a", "<", ">", "&", "\"", "\u00A0", "\u00AD", "é", "l", "t", ";", "#", "x")
		}) {
			l = append(l, api.Char{Rune: int(x), From: r.below(9), To: -1})
		}
		back(l)
	}
}

// P7.3: what Value wrote is read as the value that it was.
func TestValueAndBack(t *testing.T) {
	back := func(v string) {
		t.Helper()
		s, e := scan.Value(v)
		l, f := scan.Scan(open(t, enough, enough), `<a b="`+s+`"/>`)
		if e != api.OK || f != (api.Fault{}) || len(l) != 3 || l[1].Kind != 2 || l[1].Name != "b" || l[1].Value != v {
			t.Errorf("%.40q: %d, %v, %v", v, e, l, f)
		}
	}
	back("")
	for r := range 0x110000 {
		if utf8.ValidRune(rune(r)) && (r < 0x300 || r%97 == 0 || r > 0xD700 && r < 0xE100) {
			back(string(rune(r)))
			back(strings.Repeat(string(rune(r)), 256))
		}
	}
	r := &numbers{state: 75}
	for range 5000 {
		back(r.some(9, func() string { return r.of("a", "<", ">", "&", "\"", "\u00A0", "\u00AD", "é", "&lt;", ";", "/>") }))
	}
}

// P7.4: whatever stands behind the byte of a fault, Scan tells the same; what stands ahead of it can be the beginning of a markup.
func TestFirst(t *testing.T) {
	r := &numbers{state: 76}
	found := 0
	for range 20000 {
		s := r.torn(r.torn(r.markup()))
		m := open(t, enough, enough)
		_, f := scan.Scan(m, s)
		if f == (api.Fault{}) || f.At == len(s) {
			continue
		}
		found++
		for _, behind := range []string{"", "a", "<", "\xFF", "&", r.markup(), r.some(9, r.shred)} {
			again := open(t, enough, enough)
			if l, other := scan.Scan(again, s[:f.At+1]+behind); len(l) != 0 || other != f || counts(again) != counts(m) {
				t.Errorf("%q and %q: %v, want %v", s[:f.At+1], behind, other, f)
			}
		}
		if _, ahead := scan.Scan(open(t, enough, enough), s[:f.At]); ahead != (api.Fault{}) && ahead.At != f.At {
			t.Errorf("%q: %v, but ahead of it %v", s, f, ahead)
		}
	}
	if found < 5000 {
		t.Errorf("%d faults only", found)
	}
}

// P7.5: tokens rise, within a tag blanks alone stand between two, the Chars of a text part it, and steps and cells are bytes and tokens.
func TestOrder(t *testing.T) {
	r := &numbers{state: 77}
	for range 10000 {
		s := r.markup()
		m := open(t, enough, enough)
		l, f := scan.Scan(m, s)
		if f != (api.Fault{}) || counts(m) != (counted{len(s), len(l), len(l), 0}) {
			t.Errorf("%q: %v, %v", s, f, counts(m))
		}
		at := 0
		for n, x := range l {
			inTag := x.Kind == 2 || x.Kind == 3
			if x.At < at || x.End <= x.At || strings.Trim(s[at:x.At], " \t\n\r") != "" || !inTag && x.At != at || inTag && n == 0 {
				t.Errorf("%q: %v stands behind %d", s, x, at)
			}
			at = x.End
			parts := x.At
			for _, c := range x.Chars {
				if c.From != parts || c.To <= c.From {
					t.Errorf("%q: %v is not parted", s, x)
				}
				parts = c.To
			}
			if x.Kind == 5 && parts != x.End {
				t.Errorf("%q: %v ends at %d", s, x, parts)
			}
		}
		if at != len(s) {
			t.Errorf("%q ends at %d", s, at)
		}
	}
}

// R4: what is answered is new, its spare room too, and no two lists of it share any.
func TestMemory(t *testing.T) {
	s := `<p a="b">xyz</p>uvw<q/>&lt;a<br c="">zz` + strings.Repeat("<p>ab", 40)
	want := cuts(t, "memory", s).tokens
	scrawl := func(l []api.Token) {
		for n := range l {
			room := l[n].Chars[:cap(l[n].Chars)]
			for k := range room {
				room[k] = api.Char{Rune: -1, From: n, To: k}
			}
		}
		for n := range l[:cap(l)] {
			l[:cap(l)][n] = api.Token{Kind: -1}
		}
	}
	one, _ := scan.Scan(open(t, enough, enough), s)
	two, _ := scan.Scan(open(t, enough, enough), s)
	scrawl(one)
	if !same(two, want) {
		t.Error("two answers share memory")
	}
	for n := range two {
		_ = append(two[n].Chars, api.Char{Rune: -2})
		_ = append(two[n].Chars[:len(two[n].Chars):len(two[n].Chars)], api.Char{})
	}
	if !same(two, want) {
		t.Error("two lists of one answer share memory")
	}
	for n := range two {
		room := two[n].Chars[:cap(two[n].Chars)]
		for k := range room {
			room[k] = api.Char{Rune: -1}
		}
		for k := range two {
			if k > n && !slices.Equal(two[k].Chars, want[k].Chars) {
				t.Errorf("the characters of %d are those of %d", k, n)
			}
		}
	}
	if l, _ := scan.Scan(open(t, enough, enough), s); !same(l, want) {
		t.Error("a later answer shows what was written")
	}
}

// R4: what is handed to Text stays as it was, its spare room too.
func TestHanded(t *testing.T) {
	l := make([]api.Char, 3, 9)
	for n := range l[:9] {
		l[:9][n] = api.Char{Rune: '<' + n, From: n, To: -n}
	}
	was := slices.Clone(l[:9])
	if s, e := scan.Text(l); s != "&lt;=&gt;" || e != api.OK || !slices.Equal(l[:9], was) {
		t.Errorf("%q, %d, %v", s, e, l[:9])
	}
	l[1].Rune = -1
	was = slices.Clone(l[:9])
	if _, e := scan.Text(l); e != api.ErrArg || !slices.Equal(l[:9], was) {
		t.Errorf("%d, %v", e, l[:9])
	}
}

// P7.1, R1: long texts, and many tokens.
func TestLong(t *testing.T) {
	const n = 200000
	for _, s := range []string{strings.Repeat("a", n), strings.Repeat("\U0001F600", n), strings.Repeat("&#x41;", n), "<p" + strings.Repeat(" ", n) + ">"} {
		m := open(t, enough, enough)
		if l, f := scan.Scan(m, s); f != (api.Fault{}) || m.Steps() != len(s) || m.Held() != len(l) || len(l) > 2 {
			t.Errorf("%.10q: %v, %v", s, f, counts(m))
		}
		m = open(t, enough, enough)
		if l, f := scan.Scan(m, s+"<"); f != (api.Fault{Kind: 70, At: len(s) + 1}) || m.Steps() != len(s)+1 || len(l) != 0 {
			t.Errorf("%.10q and <: %v, %v", s, f, counts(m))
		}
	}
	for s, tokens := range map[string]int{strings.Repeat("<p>a", n): 3 * n, strings.Repeat("<p/>", n): 2 * n, strings.Repeat("</p>", n): n, "<p" + strings.Repeat(` a="b"`, n) + "/>": n + 2} {
		m := open(t, enough, enough)
		if l, f := scan.Scan(m, s); f != (api.Fault{}) || len(l) != tokens || counts(m) != (counted{len(s), tokens, tokens, 0}) {
			t.Errorf("%.10q: %v, %v", s, f, counts(m))
		}
		m = open(t, enough, tokens-1)
		if l, f := scan.Scan(m, s); f != (api.Fault{Kind: 21}) || len(l) != 0 || m.Held() != tokens-1 {
			t.Errorf("%.10q by a cell less: %v, %v", s, f, counts(m))
		}
	}
	l := slices.Repeat([]api.Char{{Rune: 0xA0}}, n)
	if s, e := scan.Text(l); s != strings.Repeat("&nbsp;", n) || e != api.OK {
		t.Errorf("Text of many: %d bytes, %d", len(s), e)
	}
}

// R5: side by side as one by one.
func TestSideBySide(t *testing.T) {
	var l []string
	r := &numbers{state: 78}
	for range 50 {
		l = append(l, r.markup(), r.torn(r.markup()))
	}
	want := make([]judged, len(l))
	for n, s := range l {
		want[n] = judge(s)
	}
	var all sync.WaitGroup
	for range 8 {
		all.Add(1)
		go func() {
			defer all.Done()
			for n, s := range l {
				m, _ := meter.New(enough, enough)
				if got, f := scan.Scan(m, s); !same(got, want[n].tokens) || f != want[n].fault {
					t.Errorf("%q: %v, %v", s, got, f)
				}
				_, _ = scan.Value(s)
			}
		}()
	}
	all.Wait()
}
