package parse_test

import (
	"strconv"
	"strings"
)

// Texts to parse, and how they come about.

// first is a doc's opening tag, 26 bytes.
const first = `<doc width="1" height="1">`

// whole is a document around what is in its paragraph.
func whole(inside string) string { return first + "<p>" + inside + "</p></doc>" }

// numbers are the same ones each time.
type numbers struct{ state uint64 }

func (r *numbers) below(n int) int {
	r.state = r.state*6364136223846793005 + 1442695040888963407
	return int(r.state>>33) % n
}

func (r *numbers) of(l ...string) string { return l[r.below(len(l))] }

// value is one that the attribute of that name may have, most often.
func (r *numbers) value(name string) string {
	if r.below(40) == 0 {
		return r.of("", "x", "0", "-1", "1.", "99999", "1000em", "1mm", "&lt;", "F&#x46;", "3sp")
	}
	switch name {
	case "font":
		return r.of("F", "g-1", "_", "Zz09", "&#x41;b", strings.Repeat("x", 32))
	case "tol":
		return r.of("0", "1", "007", "200", "10000")
	}
	return strconv.Itoa(1+r.below(20)) + r.of("", "pt", "sp", "mm", "in", "em", ".5", ".25em", ".0001em")
}

// opened is an element's opening tag, with some of the attributes that it may have.
func (r *numbers) opened(kind int) string {
	var l []string
	for _, a := range rows() {
		must := kind == 1 && a.bit&12 != 0
		if must || r.below(3) == 0 && strings.Contains(a.kinds, strconv.Itoa(kind)) {
			l = append(l, " "+a.name+`="`+r.value(a.name)+`"`)
		}
	}
	for n := range l {
		k := r.below(n + 1)
		l[n], l[k] = l[k], l[n]
	}
	return "<" + names[kind] + strings.Join(l, "") + r.of("", " ", "\n ") + ">"
}

func (r *numbers) blanks() string { return r.of("", "", " ", "\n\t", "\r", "&#x20;") }

func (r *numbers) text() string {
	return r.of("a", "b c", "&lt;", "&amp;&#xE9;", "é", " ", "\U0001F600", "&shy;&nbsp;", `"`, ">/")
}

// inside is what may be in a paragraph or a span, so deep at most.
func (r *numbers) inside(deep int) string {
	var b strings.Builder
	for range r.below(5) {
		switch n := r.below(3); {
		case n == 0:
			b.WriteString(r.text())
		case n == 1 && deep > 0:
			b.WriteString(r.opened(3) + r.inside(deep-1) + "</s>")
		default:
			b.WriteString(r.of("<br/>", "<br />"))
		}
	}
	return b.String()
}

// document is the text of one, most often.
func (r *numbers) document() string {
	var b strings.Builder
	b.WriteString(r.blanks() + r.opened(1))
	for range r.below(4) {
		b.WriteString(r.blanks() + r.opened(2) + r.inside(1+r.below(4)) + "</p>")
	}
	return b.String() + r.blanks() + "</doc>" + r.blanks()
}

// shred is a part of a document's text that stands anywhere.
func (r *numbers) shred() string {
	return r.of("<", ">", "/>", "</p>", "</s>", "</doc>", "<p>", "<s>", "<br>", "<br/>", "<s/>", "x", " ", "&", "&lt;", "\xFF", "é",
		` size="2em"`, ` size="x"`, ` width="1em"`, ` font="F"`, ` font=""`, ` tol="1"`, ` tol="10001"`, "</", `"`, "<doc>", first, "1", "em")
}

// torn is a text with a shred put in, in place of some bytes or none; or cut.
func (r *numbers) torn(s string) string {
	at := r.below(len(s) + 1)
	to := min(at+1+r.below(4), len(s))
	switch r.below(5) {
	case 0:
		return s[:at]
	case 1:
		return s[:at] + s[to:]
	case 2:
		return s[:at] + r.shred() + s[to:]
	case 3: // a tag more or less
		if from := strings.IndexByte(s[at:], '<'); from >= 0 {
			if end := strings.IndexByte(s[at+from:], '>'); end >= 0 {
				tag := s[at+from:][:end+1]
				return s[:at+from] + r.of("", tag+tag) + s[at+from+end+1:]
			}
		}
	}
	return s[:at] + r.shred() + s[at:]
}

// samples are texts short enough to try all budgets on.
func samples() []string {
	return []string{
		"", " ", first, first + "</doc>", whole(""), whole("a<br/>"), " " + whole("<s>a</s>b") + "\n", whole("<s size=\"2em\"><s>x</s></s>"),
		"<q>", "<p>", "<doc>", first + "x", first + "</q>", first + "<p/>", first + "<p><br>", first + "<p><br/", first + "</doc></p>",
		first + `<p size="x">`, first + `<p tol="1" tol="2">`, first + `<p width="1">`, whole("&lt;&"), whole("\xFF"), first + "<p>a</p>b",
	}
}
