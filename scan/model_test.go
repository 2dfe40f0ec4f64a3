package scan_test

import (
	"regexp"
	"strconv"
	"strings"

	"platen/api"
)

// The model has the chapter's grammar as rules that try each way. The first byte that can't stand is the farthest place at which a rule asked for another byte: what a rule has begun can always be ended. Where a place is, and which tokens there are, is told by looking at all that stands ahead of it.

// trial is a text that rules are tried on, and the farthest place at which one of them asked in vain.
type trial struct {
	s   string
	far int
}

// rule tells whether it can read on from a place, so that what is behind it can then read on to the end.
type rule func(t *trial, at int, behind func(at int) bool) bool

func one(may func(b byte) bool) rule {
	return func(t *trial, at int, behind func(at int) bool) bool {
		if at < len(t.s) && may(t.s[at]) {
			return behind(at + 1)
		}
		t.far = max(t.far, at)
		return false
	}
}

func from(low, high byte) rule { return one(func(b byte) bool { return low <= b && b <= high }) }

func of(bytes string) rule {
	return one(func(b byte) bool { return strings.IndexByte(bytes, b) >= 0 })
}

func lit(s string) rule {
	var l []rule
	for n := range len(s) {
		l = append(l, from(s[n], s[n]))
	}
	return seq(l...)
}

func seq(l ...rule) rule {
	if len(l) == 0 {
		return func(_ *trial, at int, behind func(at int) bool) bool { return behind(at) }
	}
	first, others := l[0], seq(l[1:]...)
	return func(t *trial, at int, behind func(at int) bool) bool {
		return first(t, at, func(at int) bool { return others(t, at, behind) })
	}
}

func alt(l ...rule) rule {
	return func(t *trial, at int, behind func(at int) bool) bool {
		for _, r := range l {
			if r(t, at, behind) {
				return true
			}
		}
		return false
	}
}

const any = 1 << 40

// rep is r, least times at least, most times at most.
func rep(least, most int, r rule) rule {
	var so func(t *trial, at, n int, behind func(at int) bool) bool
	so = func(t *trial, at, n int, behind func(at int) bool) bool {
		if n < most && r(t, at, func(at int) bool { return so(t, at, n+1, behind) }) {
			return true
		}
		return n >= least && behind(at)
	}
	return func(t *trial, at int, behind func(at int) bool) bool { return so(t, at, 0, behind) }
}

// plain is a rune as its bytes, but those signs.
func plain(but string) rule {
	more := from(0x80, 0xBF)
	return alt(
		one(func(b byte) bool { return b < 0x80 && strings.IndexByte(but, b) < 0 }),
		seq(from(0xC2, 0xDF), more),
		seq(lit("\xE0"), from(0xA0, 0xBF), more),
		seq(from(0xE1, 0xEC), more, more),
		seq(lit("\xED"), from(0x80, 0x9F), more),
		seq(from(0xEE, 0xEF), more, more),
		seq(lit("\xF0"), from(0x90, 0xBF), more, more),
		seq(from(0xF1, 0xF3), more, more, more),
		seq(lit("\xF4"), from(0x80, 0x8F), more, more),
	)
}

// number is one to six digits whose number is a rune, by how many there are.
func number() rule {
	const digits, some = "0123456789abcdefABCDEF", "123456789abcdefABCDEF"
	digit := of(digits)
	four := alt(
		seq(of("0123456789abcefABCEF"), rep(3, 3, digit)),
		seq(of("dD"), from('0', '7'), rep(2, 2, digit)),
	)
	five := seq(of(some), rep(4, 4, digit))
	return alt(
		rep(1, 3, digit),
		four,
		seq(lit("0"), four), five,
		seq(lit("00"), four), seq(lit("0"), five), seq(lit("10"), rep(4, 4, digit)),
	)
}

func character(but string) rule {
	entity := alt(lit("lt;"), lit("gt;"), lit("amp;"), lit("quot;"), lit("shy;"), lit("nbsp;"), seq(lit("#x"), number(), lit(";")))
	return alt(plain(but), seq(lit("&"), entity))
}

func markup() rule {
	name := rep(1, 256, alt(from('a', 'z'), from('A', 'Z')))
	blank := of(" \t\n\r")
	value := rep(0, 256, character(`<&"`))
	attribute := seq(rep(1, any, blank), name, lit(`="`), value, lit(`"`))
	opening := seq(lit("<"), name, rep(0, any, attribute), rep(0, any, blank), alt(lit(">"), lit("/>")))
	closing := seq(lit("</"), name, lit(">"))
	return rep(0, any, alt(character("<&"), opening, closing))
}

var wholeMarkup = markup()

// first is the first byte that can't stand; -1, if s is a markup.
func first(s string) int {
	t := &trial{s: s}
	if wholeMarkup(t, 0, func(at int) bool { t.far = max(t.far, at); return at == len(s) }) {
		return -1
	}
	return t.far
}

// within parts the beginning of a markup: what stands ahead of the tag or the text that has not ended, and that one.
func within(p string) (ahead, rest string) {
	at := strings.LastIndexByte(p, '<')
	if at < 0 {
		return "", p
	}
	marked := false
	for n := at; n < len(p); n++ {
		switch {
		case p[n] == '"':
			marked = !marked
		case p[n] == '>' && !marked:
			return p[:n+1], p[n+1:]
		}
	}
	return p[:at], p[at:]
}

var (
	someOpening = regexp.MustCompile(`^<[a-zA-Z]+`)
	someValue   = regexp.MustCompile(`[a-zA-Z]+="([^"]*)"`)
	fullName    = regexp.MustCompile(`(^<|^</|[ \t\n\r])[a-zA-Z]{256}$`)
	openEntity  = regexp.MustCompile(`&[^;]*$`)
	someChar    = regexp.MustCompile(`(?s)&[^;]*;|.`)
	someToken   = regexp.MustCompile(`</[a-zA-Z]+>|<[a-zA-Z]+(?:"[^"]*"|[^">])*>|[^<]+`)
)

func letter(s string) bool {
	return s != "" && strings.ContainsAny(s[:1], "abcdefghijklmnopqrstuvwxyzABCDEFGHIJKLMNOPQRSTUVWXYZ")
}

// kind is what is wrong with the byte at n (or with the end there), of all that can stand ahead of it.
func kind(s string, n int) api.Errno {
	_, rest := within(s[:n])
	next := s[n:min(n+1, len(s))]
	chars, inTag := rest, strings.HasPrefix(rest, "<")
	if inTag {
		chars = rest[strings.LastIndexByte(rest, '"')+1:]
	}
	inValue := inTag && strings.Count(rest, `"`)%2 == 1
	written := !inTag || inValue
	t := &trial{s: chars + next}
	whole := rep(0, any, plain(""))(t, 0, func(at int) bool { t.far = max(t.far, at); return at == len(t.s) })
	switch {
	case !inValue && letter(next) && fullName.MatchString(rest):
		return 72
	case inValue && next != "" && next != `"` && strings.ToValidUTF8(chars, "") == chars && !openEntity.MatchString(chars) && len(someChar.FindAllString(chars, -1)) == 256:
		return 72
	case written && openEntity.MatchString(chars):
		return 71
	case written && !whole && t.far == len(chars):
		return 40
	}
	return 70
}

// tokens are those of a markup, or of the beginning of one, as far as nothing has been left open.
func tokens(s string) []api.Token {
	var l []api.Token
	for _, at := range someToken.FindAllStringIndex(s, -1) {
		l = append(l, part(s[at[0]:at[1]], at[0])...)
	}
	return l
}

// part tells a text or a tag, at its place, as tokens.
func part(s string, at int) []api.Token {
	end := at + len(s)
	if strings.HasPrefix(s, "</") {
		return []api.Token{{Kind: 4, At: at, End: end, Name: s[2 : len(s)-1]}}
	}
	if s[0] != '<' {
		return []api.Token{{Kind: 5, At: at, End: end, Chars: chars(s, at)}}
	}
	l := opening(s, at)
	if strings.HasSuffix(s, "/>") {
		return append(l, api.Token{Kind: 3, At: end - 2, End: end, Empty: true})
	}
	return append(l, api.Token{Kind: 3, At: end - 1, End: end})
}

// opening tells the name and the attributes of an opening tag, which need not have ended.
func opening(s string, at int) []api.Token {
	var l []api.Token
	if name := someOpening.FindString(s); name != "" {
		l = append(l, api.Token{Kind: 1, At: at, End: at + len(name), Name: name[1:]})
	}
	for _, m := range someValue.FindAllStringSubmatchIndex(s, -1) {
		var value strings.Builder
		for _, c := range chars(s[m[2]:m[3]], 0) {
			value.WriteRune(rune(c.Rune))
		}
		l = append(l, api.Token{Kind: 2, At: at + m[0], End: at + m[1], Name: s[m[0] : m[2]-2], Value: value.String()})
	}
	return l
}

func chars(s string, at int) []api.Char {
	var l []api.Char
	for _, m := range someChar.FindAllStringIndex(s, -1) {
		l = append(l, api.Char{Rune: runeOf(s[m[0]:m[1]]), From: at + m[0], To: at + m[1]})
	}
	return l
}

// names are the entities that have one.
var names = map[string]int{"&lt;": '<', "&gt;": '>', "&amp;": '&', "&quot;": '"', "&shy;": 0xAD, "&nbsp;": 0xA0}

func runeOf(s string) int {
	if r, ok := names[s]; ok {
		return r
	}
	if strings.HasPrefix(s, "&#x") {
		n, _ := strconv.ParseInt(s[3:len(s)-1], 16, 64)
		return int(n)
	}
	return int([]rune(s)[0])
}

// judged is what Scan should answer of a text by great budgets, and what it charges: a step's letter is s, a cell's is c.
type judged struct {
	tokens  []api.Token
	fault   api.Fault
	charges string
}

func judge(s string) judged {
	n := first(s)
	if n < 0 {
		l := tokens(s)
		return judged{l, api.Fault{}, charges(len(s), l)}
	}
	ahead, rest := within(s[:n])
	done := tokens(ahead)
	if strings.HasPrefix(rest, "<") {
		l := opening(rest, len(ahead))
		if len(l) == 1 && l[0].End == n && letter(s[n:]) {
			l = nil // the name goes on, or would
		}
		done = append(done, l...)
	}
	w := judged{nil, api.Fault{Kind: kind(s, n), At: n}, charges(n, done)}
	if n < len(s) {
		w.charges += "s"
	}
	return w
}

// charges are those of so many bytes with these tokens.
func charges(bytes int, l []api.Token) string {
	var b strings.Builder
	n := 0
	for _, x := range l {
		b.WriteString(strings.Repeat("s", x.End-n) + "c")
		n = x.End
	}
	return b.String() + strings.Repeat("s", bytes-n)
}

// counted is what a meter tells.
type counted struct {
	steps, held, peak int
	refused           api.Errno
}

// under is what Scan answers by fewer steps and cells, and what is counted then.
func (w judged) under(steps, cells int) (judged, counted) {
	var c counted
	for _, x := range w.charges {
		switch {
		case x == 's' && c.steps == steps:
			c.refused = 20
		case x == 'c' && c.held == cells:
			c.refused = 21
		case x == 's':
			c.steps++
		default:
			c.held++
		}
		if c.refused != 0 {
			w.tokens, w.fault = nil, api.Fault{Kind: c.refused}
			break
		}
	}
	c.peak = c.held
	return w, c
}
