package scan_test

import (
	"strconv"
	"strings"

	"platen/api"
)

// Markups to cut, and how they come about.

// numbers are the same ones each time.
type numbers struct{ state uint64 }

func (r *numbers) below(n int) int {
	r.state = r.state*6364136223846793005 + 1442695040888963407
	return int(r.state>>33) % n
}

func (r *numbers) of(l ...string) string { return l[r.below(len(l))] }

// some is what f tells, so many times, fewer than n.
func (r *numbers) some(n int, f func() string) string {
	var b strings.Builder
	for range r.below(n) {
		b.WriteString(f())
	}
	return b.String()
}

func (r *numbers) name() string {
	return r.of("p", "doc", "S", "br", "zZaA")
}

func (r *numbers) blank() string { return r.of(" ", "\t", "\n", "\r") }

func (r *numbers) number() string {
	n := r.below(0x110000)
	switch r.below(4) {
	case 0:
		n = r.below(0x80)
	case 1:
		n = 0xD7F0 + r.below(0x20)
	}
	if n >= 0xD800 && n < 0xE000 {
		n = 0xE000
	}
	s := strconv.FormatInt(int64(n), 16)
	if r.below(2) == 0 {
		s = strings.ToUpper(s)
	}
	return "&#x" + strings.Repeat("0", r.below(7-len(s))) + s + ";"
}

func (r *numbers) character() string {
	switch r.below(4) {
	case 0:
		return r.of("&lt;", "&gt;", "&amp;", "&quot;", "&shy;", "&nbsp;")
	case 1:
		return r.number()
	case 2:
		return r.of("é", "\u00AD", "\u00A0", "€", "\uFFFD", "\U0001F600", "\U0010FFFF", "\u07FF", "\uD7FF")
	}
	return r.of("a", "F", ">", "/", "=", ";", "#", " ", "\n", "\x00", "\x7F")
}

func (r *numbers) attribute() string {
	return r.blank() + r.some(3, r.blank) + r.name() + `="` + r.some(4, r.character) + `"`
}

// tag or text: one part of a markup.
func (r *numbers) part() string {
	switch r.below(4) {
	case 0:
		return "</" + r.name() + ">"
	case 1:
		return r.character() + r.some(3, func() string { return r.of(r.character(), `"`) })
	}
	return "<" + r.name() + r.some(4, r.attribute) + r.some(3, r.blank) + r.of(">", "/>")
}

func (r *numbers) markup() string { return r.some(6, r.part) }

// shred is a piece of anything.
func (r *numbers) shred() string {
	return r.of("<", ">", "/", "\"", "=", " ", "&", ";", "#x", "a", "p", "lt", "amp;", "\xE2\x82", "\xC3", "\xA9", "\xFF", "\x00", "D8", "00", "11", `="`, "</p>", "<p", "/>", "&#x")
}

// torn is s with a shred put in, in place of some bytes or none; or s cut.
func (r *numbers) torn(s string) string {
	at := r.below(len(s) + 1)
	switch r.below(4) {
	case 0:
		return s[:at]
	case 1:
		return s[:at] + s[min(at+1, len(s)):]
	case 2:
		return s[:at] + r.shred() + s[min(at+1+r.below(3), len(s)):]
	}
	return s[:at] + r.shred() + s[at:]
}

// places are beginnings of markups, of each kind of place that there is.
func places() []string {
	letters, fewer := strings.Repeat("z", 256), strings.Repeat("Z", 255)
	l := []string{
		"", "a", "a>\"", " ", "é", "a\uFFFD", "&amp;", "<p>", "</p>", "a</p>a", "<p/>",
		"<", "a<", "<p", "<P", "<pZ", "<" + fewer, "<" + letters,
		"</", "</p", "</Zp", "</" + fewer, "</" + letters,
		"<p ", "<p \t", "<p\n", "<p\r", "<p/", "<p /", "<p a", "<p  aB", "<p " + fewer, "<p " + letters,
		"<p a=", `<p a="`, `<p a="b`, `<p a="b>`, `<p a="/ =`, `<p a="&lt;`, `<p a=""`, `<p a="b"`, `<p a="b" `, `<p a="b" c`, `<p a="b"/`, `<p a="b" /`, `<p a="b" c="d"`, `<p a="b" c="`,
	}
	entity := []string{"&", "&l", "&lt", "&lt;", "&g", "&a", "&am", "&amp", "&q", "&qu", "&quo", "&quot", "&s", "&sh", "&shy", "&n", "&nb", "&nbs", "&nbsp", "&#", "&#x"}
	for _, digits := range []string{"0", "41", "00D", "D80", "d7FF", "D800", "dfff", "E000", "ffff", "D8000", "0D800", "0D7FF", "00D80", "00d7F", "00DFF", "00E00", "0DFFF", "11000", "10FFF", "FFFFF", "00000", "000041", "10FFFF", "00D7FF", "0D8000"} {
		entity = append(entity, "&#x"+digits)
	}
	runes := []string{"\xC2", "\xDF", "\xE0", "\xE0\xA0", "\xE1", "\xE1\x80", "\xED", "\xED\x9F", "\xEF", "\xEF\xBF", "\xF0", "\xF0\x90", "\xF0\x90\x80", "\xF1\x80", "\xF4", "\xF4\x8F", "\xF4\x8F\xBF"}
	for _, s := range append(entity, runes...) {
		l = append(l, s, "a<p>b"+s, `<p a="`+s, `<p a="é`+s, `<p a="b" c="`+strings.Repeat("é", 255)+s)
	}
	for _, c := range []string{"a", "é", "\U0001F600", "&nbsp;", "&#x000041;"} {
		l = append(l, `<p a="`+strings.Repeat(c, 255), `<p a="`+strings.Repeat(c, 256))
	}
	return l
}

// samples are markups, and texts that are none, short enough to try all budgets on.
func samples() []string {
	return []string{
		"", "a", "a<", "a<p", "a<p>b</p>", "<p a=\"b&lt;\">x&amp;y</p>", "<br />", "<p  >abcd", "<p  a=\"\"\n/>", "é", "aé<p>é", "a\xFF", "a\xC3", "a\xC3<", "<p\xFF", "<p a=\"b\"c", "<p a=\"é\xFF", "&#x41;&lt", "<p>a</p >", "</p><q/>\"",
		"<p a=\"b\" c=\"d\">", "<1", "<", "&", "<p", "\xFF", "<p/ ", "<p>&#x110000;",
	}
}

// without are characters without their places.
func without(l []api.Char) []int {
	var w []int
	for _, c := range l {
		w = append(w, c.Rune)
	}
	return w
}
