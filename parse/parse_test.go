package parse_test

import (
	"math"
	"slices"
	"strconv"
	"strings"
	"sync"
	"testing"

	"platen/api"
	"platen/meter"
	"platen/parse"
	"platen/scan"
	"platen/tree"
	"platen/unit"
)

const enough = 1 << 40

const point = 65536

// counted is what a meter tells.
type counted struct {
	steps, held, peak int
	refused           api.Errno
}

func counts(m *meter.Meter) counted { return counted{m.Steps(), m.Held(), m.Peak(), m.Refused()} }

func open(steps, cells int) *meter.Meter {
	m, e := meter.New(steps, cells)
	if e != api.OK {
		panic("no meter")
	}
	return m
}

// same holds nodes against each other, with their places.
func same(a, b []api.Node) bool {
	return tree.Same(a, b) && slices.EqualFunc(a, b, func(x, y api.Node) bool {
		return x.At == y.At && x.End == y.End && slices.Equal(x.Chars, y.Chars)
	})
}

// holds holds Parse by a budget against the model.
func holds(t *testing.T, what, s string, steps, cells int) ([]api.Node, api.Fault) {
	t.Helper()
	m, other := open(steps, cells), open(steps, cells)
	l, f := parse.Parse(m, s)
	want, fault := parsed(other, s)
	if !same(l, want) || f != fault || counts(m) != counts(other) {
		t.Errorf("%s: %.200q (%d bytes) by %d and %d: %v, %v, %v; want %v, %v, %v", what, s, len(s), steps, cells, l, f, counts(m), want, fault, counts(other))
	}
	return l, f
}

// tells is holds by great budgets; a document is one that follows.
func tells(t *testing.T, what, s string) ([]api.Node, api.Fault) {
	t.Helper()
	l, f := holds(t, what, s, enough, enough)
	if f.Kind != api.OK {
		return l, f
	}
	if n, e := tree.Check(l); n != 0 || e != api.OK {
		t.Errorf("%s: %q: Check tells %d, %d", what, s, n, e)
	}
	lies(t, s, l)
	return l, f
}

// lies holds a document's places: they rise, each node's lie within its Parent's, and two of one Parent lie one behind the other.
func lies(t *testing.T, s string, l []api.Node) {
	t.Helper()
	ends := map[int]int{}
	for n, x := range l {
		if x.At >= x.End || x.End > len(s) || n > 0 && x.At <= l[n-1].At || x.At < ends[x.Parent] {
			t.Errorf("%q: node %d stands at %d to %d", s, n, x.At, x.End)
		}
		if n > 0 && (x.At <= l[x.Parent].At || x.End >= l[x.Parent].End) {
			t.Errorf("%q: node %d is not within its Parent", s, n)
		}
		ends[x.Parent] = x.End
	}
}

// fails asks for that fault, and no nodes.
func fails(t *testing.T, s string, kind api.Errno, at int) {
	t.Helper()
	if l, f := tells(t, "wrong", s); len(l) != 0 || f != (api.Fault{Kind: kind, At: at}) {
		t.Errorf("%.120q (%d bytes): %d nodes, %v; want %d at %d", s, len(s), len(l), f, kind, at)
	}
}

// Each of the chapter's examples.
func TestExamples(t *testing.T) {
	l, f := tells(t, "example", `<doc width="100" height="50"><p>a<br/></p></doc>`)
	want := []api.Node{
		{Kind: 1, Parent: -1, At: 0, End: 48, Has: 12, Width: 100 * point, Height: 50 * point},
		{Kind: 2, Parent: 0, At: 29, End: 42},
		{Kind: 4, Parent: 1, At: 32, End: 33, Chars: []api.Char{{Rune: 'a', From: 32, To: 33}}},
		{Kind: 5, Parent: 1, At: 33, End: 38},
	}
	if !same(l, want) || f != (api.Fault{}) {
		t.Error(l, f)
	}
	l, f = tells(t, "example", `<doc tol="1" size="2em" width="1em" height="1"></doc>`)
	if f != (api.Fault{}) || l[0].Size != 20*point || l[0].Width != 20*point || l[0].Tol != 1 || l[0].Has != 2+4+8+64 {
		t.Error(l, f)
	}
	for _, x := range []struct {
		s    string
		kind api.Errno
		at   int
	}{
		{"", 105, 0}, {"  ", 105, 2}, {first, 105, 26},
		{"<q>", 100, 1}, {"<p>", 100, 1}, {"<doc>", 100, 4},
		{`<doc width="1" width="1" height="1">`, 102, 15},
		{`<doc tol="1" size="2em" width="1em" height="0">`, 81, 44},
		{`<doc height="x" width="y">`, 80, 13}, {`<doc width="y" height="x">`, 80, 12},
		{first + "x", 100, 26},
		{first + "</q>", 101, 28}, {first + "</do>", 101, 30}, {first + "</docs>", 101, 31},
		{first + "<p/>", 100, 28}, {first + "<p><br>", 100, 32},
		{`<doc width="1" height="1" lead="x">`, 80, 32},
		{first + "<p>\xFF</q>", 40, 29}, {first + "<p>&x</q>", 71, 30}, {first + "<p><", 70, 30},
		{"<q" + strings.Repeat("q", 256), 72, 257},
	} {
		fails(t, x.s, x.kind, x.at)
	}
}

// P10.1, P10.2: all rows of a few parts, right ones and wrong ones.
func TestRows(t *testing.T) {
	parts := []string{first, "<p>", "<s>", "<br/>", "<br>", "</doc>", "</p>", "</s>", "</br>", "x", " ", "<s/>", "<q>"}
	came := map[api.Errno]int{}
	var grow func(s string, more int)
	grow = func(s string, more int) {
		_, f := tells(t, "a row", s)
		came[f.Kind]++
		if t.Failed() {
			t.FailNow()
		}
		if more == 0 || f.Kind != 0 && f.Kind != 105 {
			return
		}
		for _, part := range parts {
			grow(s+part, more-1)
		}
	}
	grow("", 6)
	grow(first+"<p>", 5)
	grow(first+"<p>a<s>", 4)
	if came[0] < 100 || came[100] < 1000 || came[101] < 1000 || came[105] < 1000 {
		t.Errorf("came: %v", came)
	}
}

// P10.1: which elements may stand where.
func TestStands(t *testing.T) {
	places := map[string]string{
		"": "doc", " \n": "doc",
		first: "p", first + " ": "p", first + "<p></p>": "p",
		first + "<p>": "s br", first + "<p>a": "s br", first + "<p><br/>": "s br", first + "<p><s></s>": "s br",
		first + "<p><s>": "s br", first + "<p><s>a<s>": "s br", first + "<p><s><br/>": "s br",
		first + "</doc>": "", first + "</doc> ": "", first + "<p></p></doc>": "",
	}
	tags := map[string]string{"doc": first, "p": "<p>", "s": "<s>", "br": "<br/>"}
	for place, may := range places {
		for name, tag := range tags {
			if slices.Contains(strings.Fields(may), name) {
				if _, f := tells(t, "a place", place+tag); f.Kind != 105 || f.At != len(place+tag) {
					t.Errorf("%q at %q: %v", tag, place, f)
				}
				continue
			}
			fails(t, place+tag, 100, len(place)+1)
		}
		for _, name := range []string{"q", "d", "do", "docs", "Doc", "P", "ps", "S", "b", "bR", "brr", strings.Repeat("p", 256)} {
			fails(t, place+"<"+name+">", 100, len(place)+1)
		}
	}
}

// P10.1: elements within one another up to MaxDepth; what is not open counts no more, a text not at all.
func TestDeep(t *testing.T) {
	deep := first + "<p>" + strings.Repeat("<s>", 30)
	closed := strings.Repeat("</s>", 30) + "</p></doc>"
	for _, inside := range []string{"", "a", "&lt;"} {
		if l, f := tells(t, "as deep as may be", deep+inside+closed); f.Kind != 0 || len(l) < 32 {
			t.Error(f)
		}
	}
	fails(t, deep+"<s>", 103, len(deep))
	fails(t, deep+"a<br/>", 103, len(deep)+1)
	fails(t, deep+"<br/>", 103, len(deep))
	fails(t, deep+"<s q", 70, len(deep)+4)
	fails(t, deep+"<p>", 100, len(deep)+1)
	fails(t, deep+"<q>", 100, len(deep)+1)
	fails(t, deep+first, 100, len(deep)+1)
	for _, inside := range []string{"</s><s></s>", "</s><br/><br/><s></s>", "a</s>b<s>c</s>d"} {
		if _, f := tells(t, "as deep again", deep+inside+strings.Repeat("</s>", 29)+"</p></doc>"); f.Kind != 0 {
			t.Error(inside, f)
		}
	}
	fails(t, deep+"</s><s><s>", 103, len(deep)+7)
}

// P10.1: nodes up to MaxNodes; a place that is wrong, or too deep, is told first.
func TestMany(t *testing.T) {
	begun := map[string]string{
		"br": first + "<p>" + strings.Repeat("<br/>", 8189),
		"s":  first + "<p>" + strings.Repeat("<s></s>", 8189),
		"a":  first + "<p>" + strings.Repeat("a<br/>", 4094) + "<br/>",
	}
	for what, s := range begun {
		for _, last := range []string{"a", "<br/>", "<s></s>"} {
			l, f := holds(t, what, s+last+"</p>  </doc>", enough, enough)
			if f.Kind != 0 || len(l) != api.MaxNodes {
				t.Fatal(what, last, len(l), f)
			}
			if _, e := tree.Check(l); e != api.OK {
				t.Error(what, last, e)
			}
		}
	}
	full := begun["br"] + "<br/>"
	for s, want := range map[string]api.Fault{
		full + "a":                  {Kind: 104, At: len(full)},
		full + "<br/>":              {Kind: 104, At: len(full)},
		full + "<br a":              {Kind: 70, At: len(full) + 5},
		full + "<s>":                {Kind: 104, At: len(full)},
		full + "</p><p>":            {Kind: 104, At: len(full) + 4},
		full + "</p>a":              {Kind: 100, At: len(full) + 4},
		full + "</p> ":              {Kind: 105, At: len(full) + 5},
		full + "</p></doc>x":        {Kind: 100, At: len(full) + 10},
		full + "<p>":                {Kind: 100, At: len(full) + 1},
		full + first:                {Kind: 100, At: len(full) + 1},
		full + "</p></doc>" + first: {Kind: 100, At: len(full) + 11},
	} {
		if l, f := holds(t, "too many", s, enough, enough); len(l) != 0 || f != want {
			t.Errorf("%q behind many: %v; want %v", s[len(full):], f, want)
		}
	}
	deep := first + "<p>" + strings.Repeat("<br/>", 8192-32) + strings.Repeat("<s>", 30)
	if l, f := holds(t, "as many, as deep", deep+strings.Repeat("</s>", 30)+"</p></doc>", enough, enough); f.Kind != 0 || len(l) != 8192 {
		t.Error(len(l), f)
	}
	for s, kind := range map[string]api.Errno{"<s>": 103, "<br/>": 103, "a": 104} {
		if _, f := holds(t, "both", deep+s, enough, enough); f != (api.Fault{Kind: kind, At: len(deep)}) {
			t.Errorf("%q behind many, deep: %v", s, f)
		}
	}
}

// tag is an opening tag up to where its attributes stand, those that it must have, and what ends the document behind them.
type tag struct {
	kind                int
	front, must, behind string
}

func elements() []tag {
	return []tag{
		{1, "<doc", ` width="1" height="1"`, "></doc>"},
		{2, first + "<p", "", "></p></doc>"},
		{3, first + "<p><s", "", "></s></p></doc>"},
		{5, first + "<p><br", "", "/></p></doc>"},
	}
}

// P10.1, TokAttr: each attribute of each element, names that are none, and an attribute twice.
func TestAttributes(t *testing.T) {
	others := []string{"q", "Width", "WIDTH", "widt", "widths", "fonts", "Font", "siz", "has", "kind", "at", "parent", "chars", "t", strings.Repeat("x", 256)}
	for _, e := range elements() {
		for _, r := range rows() {
			one := " " + r.name + `="1"`
			if !strings.Contains(r.kinds, strconv.Itoa(e.kind)) {
				fails(t, e.front+one+e.behind, 100, len(e.front)+1)
				fails(t, e.front+one+one+e.behind, 100, len(e.front)+1)
				continue
			}
			fails(t, e.front+one+one+e.behind, 102, len(e.front)+len(one)+1)
			fails(t, e.front+one+"\n "+one+e.behind, 102, len(e.front)+len(one)+3)
			if r.bit&12 == 0 {
				l, f := tells(t, "an attribute", e.front+e.must+one+e.behind)
				if f.Kind != 0 || l[e.kind-1].Has&^12 != r.bit {
					t.Errorf("%s of %d: %v", r.name, e.kind, f)
				}
			}
			for _, other := range rows() {
				if other.name != r.name {
					tells(t, "two", e.front+one+" "+other.name+`="1"`+e.behind)
				}
			}
		}
		for _, name := range others {
			fails(t, e.front+" "+name+`="1"`+e.behind, 100, len(e.front)+1)
		}
	}
	fails(t, `<doc width="x" q="1">`, 100, 15)
	fails(t, `<doc width="x" width="1">`, 102, 15)
	fails(t, `<doc width="1" height="1" width="1" q="1">`, 102, 26)
	if _, f := tells(t, "one each", `<doc width="1" height="1" size="1" tol="1"><p size="1" tol="1"><s size="1"><s size="1"></s></s><s size="1"></s></p><p size="1"></p></doc>`); f.Kind != 0 {
		t.Error(f)
	}
}

// valuesOf are the values of an attribute that are right, with what they say, and those that are wrong, in an element in which an em is 10 points.
func valuesOf(r row) (map[string]int, map[string]api.Errno) {
	if r.name == "tol" {
		return map[string]int{"0": 0, "1": 1, "10000": 10000, "000010000": 10000},
			map[string]api.Errno{"10001": 81, "999999999": 81, "1000000000": 80, "": 80, "-1": 80, "1pt": 80, "1.0": 80, " 1": 80, "&lt;": 80}
	}
	least := strconv.Itoa(r.least) + "sp"
	most := strconv.Itoa(r.most / point)
	right := map[string]int{
		least: r.least, most: r.most, most + "pt": r.most, most + ".0000": r.most, most + ".0000pt": r.most, strconv.Itoa(r.most) + "sp": r.most,
		"1": point, "1pt": point, "1in": 72 * point, "1mm": 185771, "1em": 10 * point, "0.5em": 5 * point, "&#x31;": point, "0.5sp": 1, "007": 7 * point, strconv.Itoa(r.most/point/16) + "em": r.most / 16 * 10,
	}
	wrong := map[string]api.Errno{
		most + ".0001": 81, strconv.Itoa(r.most+1) + "sp": 81, "999999999999999": 81, "99999999999999em": 81, "9999em": 81,
		"": 80, "x": 80, "-1": 80, "+1": 80, ".5": 80, "5.": 80, "5.00000": 80, "1 pt": 80, " 1": 80, "1px": 80, "1PT": 80, "0000000000000001": 80, "&lt;": 80, "\U0001D7D9": 80, "1em ": 80,
	}
	zero := map[string]int{"0": 0, "0sp": 0, "0em": 0, "0.4sp": 0, "0.0000": 0}
	for s := range zero {
		if r.least == 0 {
			right[s] = 0
		} else {
			wrong[s] = 81
		}
	}
	return right, wrong
}

// fieldOf is what a node says of the attribute of that name.
func fieldOf(x api.Node, name string) int {
	return map[string]int{"width": x.Width, "height": x.Height, "size": x.Size, "lead": x.Lead, "skip": x.Skip, "tol": x.Tol}[name]
}

// P10.1, TokTag: the values of each attribute of each element, at the edges and wrong ones.
func TestValues(t *testing.T) {
	for _, e := range elements() {
		for _, r := range rows() {
			if !strings.Contains(r.kinds, strconv.Itoa(e.kind)) || r.name == "font" {
				continue
			}
			front, behind := e.front+" "+r.name+`="`, `"`+e.behind
			if r.bit&12 != 0 {
				behind = `" ` + map[string]string{"width": "height", "height": "width"}[r.name] + `="1"` + e.behind
			} else if e.kind == 1 {
				behind = `"` + e.must + e.behind
			}
			right, wrong := valuesOf(r)
			for s, want := range right {
				l, f := tells(t, "a value", front+s+behind)
				if f.Kind != 0 || l[e.kind-1].Has&r.bit == 0 || fieldOf(l[e.kind-1], r.name) != want {
					t.Errorf("%s=%q: %v", r.name, s, f)
				}
			}
			for s, kind := range wrong {
				fails(t, front+s+behind, kind, len(front))
				fails(t, front+s+`"`+e.behind, kind, len(front))
			}
		}
	}
}

// P10.1: a font's name: each byte, its length, and what its characters stand for.
func TestFonts(t *testing.T) {
	for _, e := range elements()[:3] {
		front, behind := e.front+e.must+` font="`, `"`+e.behind
		for b := range 256 {
			switch b {
			case '"', '<', '&':
				continue
			}
			s := "x" + string(rune(b)) + "y"
			if b < 128 && (b == '-' || b == '_' || b-'0' < 10 && b >= '0' || b >= 'a' && b <= 'z' || b >= 'A' && b <= 'Z') {
				if l, f := tells(t, "a name", front+s+behind); f.Kind != 0 || l[e.kind-1].Font != s {
					t.Error(s, f)
				}
				continue
			}
			fails(t, front+s+behind, 100, len(front))
		}
		for s, want := range map[string]string{
			"F": "F", "0": "0", "-": "-", "_": "_", strings.Repeat("x", 32): strings.Repeat("x", 32),
			"&#x41;&#x7a;": "Az", strings.Repeat("&#x00002d;", 32): strings.Repeat("-", 32),
		} {
			if l, f := tells(t, "a name", front+s+behind); f.Kind != 0 || l[e.kind-1].Font != want || l[e.kind-1].Has&1 == 0 {
				t.Error(s, f)
			}
		}
		for _, s := range []string{"", strings.Repeat("x", 33), strings.Repeat("x", 256), "&quot;", "&lt;", "a&#x20;", "&shy;", "\uFF21", "Ā", "a.b", "a b"} {
			fails(t, front+s+behind, 100, len(front))
		}
	}
}

// P10.1: of a tag's values that of size is asked first, the others in the order in which they stand.
func TestOrder(t *testing.T) {
	values := []string{` size="x"`, ` size="0"`, ` size="3"`, ` width="y"`, ` width="1"`, ` font="é"`, ` font="F"`, ` tol="10001"`, ` tol="1"`, ` lead="9000"`, ` lead="1em"`, ` q="1"`}
	var grow func(s string, more int)
	grow = func(s string, more int) {
		for _, end := range []string{">", "/>", ` height="1">`, ` height="1"></doc>`} {
			tells(t, "some values", s+end)
			if t.Failed() {
				t.FailNow()
			}
		}
		for _, v := range values {
			if more > 0 {
				grow(s+v, more-1)
			}
		}
	}
	grow("<doc", 4)
	fails(t, `<doc tol="x" font="" width="x" height="x" size="x">`, 80, 48)
	fails(t, `<doc tol="x" font="" width="x" height="x" size="1">`, 80, 10)
	fails(t, `<doc tol="1" font="" width="x" height="x" size="1">`, 100, 19)
	fails(t, `<doc lead="820em" size="10" width="x">`, 81, 11)
	fails(t, `<doc lead="820em" size="9" width="x">`, 80, 34)
	fails(t, `<doc width="x"/>`, 80, 12)
	fails(t, `<doc width="1"/>`, 100, 14)
	fails(t, `<doc height="1" >`, 100, 16)
	fails(t, `<doc width="1" height="1" />`, 100, 26)
	fails(t, first+`<p size="1"/>`, 100, len(first)+11)
	fails(t, first+`<p><s/>`, 100, len(first)+5)
	fails(t, first+`<p><br >`, 100, len(first)+7)
}

// P10.1: an em is the size around for a size; for all else the element's own, if it has one.
func TestEms(t *testing.T) {
	sizes := func(s string) (l []int) {
		nodes, f := tells(t, "ems", s)
		if f.Kind != 0 {
			t.Fatal(s, f)
		}
		for _, x := range nodes {
			if x.Kind != 4 && x.Kind != 5 {
				l = append(l, x.Size/point, x.Lead/point)
			}
		}
		return l
	}
	for s, want := range map[string][]int{
		`<doc width="1" height="1" lead="1em"></doc>`:                                                                  {0, 10},
		`<doc width="1" height="1" lead="1em" size="1em"></doc>`:                                                       {10, 10},
		`<doc width="1" height="1" lead="1em" size="3em"><p lead="2em"></p></doc>`:                                     {30, 30, 0, 60},
		`<doc width="1" height="1" lead="1em"><p size="2em" lead="2em"></p><p lead="1em"></p><p size="3em"></p></doc>`: {0, 10, 20, 40, 0, 10, 30, 0},
		`<doc width="1" height="1" size="5"><p size="2em"></p><p lead="1em" size="3em"></p></doc>`:                     {5, 0, 10, 0, 15, 15},
	} {
		if l := sizes(s); !slices.Equal(l, want) {
			t.Errorf("%s: %v; want %v", s, l, want)
		}
	}
	l := sizes(`<doc width="1" height="1"><p size="2em">a<s>b<s size="2em">c<br/><s size="1em"></s><s><s size="2em"></s></s></s><s size="3em"></s></s><s size="0.5em"></s></p><p><s size="1em"></s></p></doc>`)
	if !slices.Equal(l, []int{0, 0, 20, 0, 0, 0, 40, 0, 40, 0, 0, 0, 80, 0, 60, 0, 10, 0, 0, 0, 10, 0}) {
		t.Error(l)
	}
	l2, f := tells(t, "wide ems", `<doc height="2em" width="3em" size="7"></doc>`)
	if f.Kind != 0 || l2[0].Width != 21*point || l2[0].Height != 14*point {
		t.Error(l2, f)
	}
	fails(t, `<doc width="1" height="1" size="1024"><p size="1.0001em">`, 81, 47)
}

// P10.1, TokClose: each pair of names; where no element is open.
func TestCloses(t *testing.T) {
	opens := map[string]string{"doc": first, "p": first + "<p>", "s": first + "<p><s>"}
	closing := map[string]map[string]int{
		"doc": {"d": 1, "do": 2, "docs": 3, "dox": 2, "Doc": 0, "dOc": 1, "p": 0, "s": 0, "br": 0, "c": 0, "docdoc": 3, "ddoc": 1},
		"p":   {"pp": 1, "P": 0, "doc": 0, "s": 0, "br": 0, "ps": 1, "sp": 0},
		"s":   {"ss": 1, "S": 0, "p": 0, "doc": 0, "sp": 1, "ps": 0, strings.Repeat("s", 256): 1},
	}
	for name, s := range opens {
		for other, common := range closing[name] {
			fails(t, s+"</"+other+">", 101, len(s)+2+common)
		}
		tells(t, "closed", s+"</"+name+">")
	}
	fails(t, first+"<p><br/></br>", 101, len(first)+10)
	for _, s := range []string{"", " ", first + "</doc>", whole("a") + "\n"} {
		for _, name := range []string{"doc", "p", "q"} {
			fails(t, s+"</"+name+">", 100, len(s))
		}
	}
}

// P10.1, TokText: texts in paragraphs and spans; elsewhere blanks alone, which make no node.
func TestTexts(t *testing.T) {
	places := []string{"", first, first + "<p></p>", whole("")}
	for _, s := range places {
		for _, blanks := range []string{" ", "\t\n\r ", "&#x20;", "&#x9;\n&#xD;", strings.Repeat(" ", 300)} {
			if _, f := tells(t, "blanks", s+blanks); f.Kind != 105 && f.Kind != 0 {
				t.Errorf("%q: %v", s+blanks, f)
			}
			for _, x := range []string{"x", "\u00A0", "&nbsp;", "&shy;", "&#xA0;", "\x00", "\v", "\f", "\u2028", "\u3000", "é", "&lt;", "\u0085"} {
				fails(t, s+blanks+x+"y"+blanks, 100, len(s+blanks))
				fails(t, s+x, 100, len(s))
			}
		}
	}
	for _, s := range []string{" ", "\n", "&#x20;", "&nbsp;", "&shy;", "a", "\x00"} {
		for _, around := range []string{"<s>", "<br/>", ""} {
			text := whole(around + s + map[string]string{"<s>": "</s>"}[around])
			l, f := tells(t, "a text", text)
			if x := l[len(l)-1]; f.Kind != 0 || x.Kind != 4 || text[x.At:x.End] != s || len(x.Chars) != 1 {
				t.Errorf("%q: %v, %v", text, l, f)
			}
		}
	}
	l, f := tells(t, "blanks between", " \n"+first+" <p> <br/> </p>\t<p></p>\r</doc> ")
	if f.Kind != 0 || len(l) != 6 || l[0].At != 2 || l[5].Kind != 2 {
		t.Error(l, f)
	}
}

// P10.1, P10.4: by each budget of steps and of cells that a text can pass: what is refused, what was counted, and the same fault by all others.
func TestBudgets(t *testing.T) {
	for _, s := range samples() {
		m := open(enough, enough)
		l, f := parse.Parse(m, s)
		all := counts(m)
		for steps := 0; steps <= all.steps+1; steps++ {
			for cells := 0; cells <= all.peak+1; cells++ {
				got, fault := holds(t, "a budget", s, steps, cells)
				if steps >= all.steps && cells >= all.peak && (!same(got, l) || fault != f) {
					t.Errorf("%q by %d and %d: %v", s, steps, cells, fault)
				}
				if (steps < all.steps || cells < all.peak) && (len(got) != 0 || fault.At != 0 || fault.Kind != 20 && fault.Kind != 21) {
					t.Errorf("%q by %d and %d, too little: %v, %v", s, steps, cells, got, fault)
				}
			}
		}
	}
	s := whole("a<br/>b")
	m := open(enough, enough)
	parse.Parse(m, s)
	tokens, _ := scan.Scan(open(enough, enough), s)
	if want := (counted{len(s) + len(tokens), len(tokens) + 5, len(tokens) + 4 + 3, 0}); counts(m) != want {
		t.Errorf("counted %v, want %v", counts(m), want)
	}
}

// P10.4: a meter that has counted, or refused; one for two texts.
func TestMeters(t *testing.T) {
	m, other := open(1000, 100), open(1000, 100)
	for n, s := range []string{whole("a"), first + "<p><s>", whole("<s>x</s>"), first + "</q>", whole("&lt;"), "", whole("a<br/>b<br/>c<br/>"), whole("a"), first, "", "x"} {
		l, f := parse.Parse(m, s)
		want, fault := parsed(other, s)
		if !same(l, want) || f != fault || counts(m) != counts(other) {
			t.Errorf("%d: %v, %v, %v; want %v, %v, %v", n, l, f, counts(m), want, fault, counts(other))
		}
	}
	for _, m := range []*meter.Meter{open(0, 0), open(0, 5), open(math.MaxInt, 0), open(math.MaxInt, math.MaxInt)} {
		if l, f := parse.Parse(m, ""); len(l) != 0 || f != (api.Fault{Kind: 105}) {
			t.Error(l, f)
		}
	}
	m = open(3, 3)
	m.Step(4)
	if l, f := parse.Parse(m, whole("a")); len(l) != 0 || f != (api.Fault{Kind: 20}) {
		t.Error(l, f)
	}
	if l, f := parse.Parse(m, ""); len(l) != 0 || f != (api.Fault{Kind: 105}) {
		t.Error(l, f)
	}
}

// P10.3: what Print writes of a document is parsed as the Same; what was parsed and printed is parsed as the same text.
func TestThereAndBack(t *testing.T) {
	r := &numbers{state: 101}
	documents := 0
	for range 4000 {
		s := r.document()
		l, f := tells(t, "a document", s)
		if f.Kind != 0 {
			continue
		}
		documents++
		printed, e := tree.Print(l)
		again, f := tells(t, "what was printed", printed)
		if e != api.OK || f.Kind != 0 || !tree.Same(l, again) {
			t.Fatalf("%q: %q, %d, %v", s, printed, e, f)
		}
		if twice, _ := tree.Print(again); twice != printed {
			t.Fatalf("%q, %q", printed, twice)
		}
	}
	if documents < 2000 {
		t.Errorf("only %d documents", documents)
	}
	for _, l := range made() {
		printed, e := tree.Print(l)
		again, f := tells(t, "a made one", printed)
		if e != api.OK || f.Kind != 0 || !tree.Same(l, again) {
			t.Errorf("%q: %d, %v", printed, e, f)
		}
	}
}

// made are documents whose attributes stand at their limits, and whose texts are of all kinds of characters.
func made() [][]api.Node {
	doc := api.Node{Kind: 1, Parent: -1, Has: 127, Font: strings.Repeat("Z", 32), Size: api.MaxSize, Width: api.MaxSide, Height: 1, Lead: 0, Skip: api.MaxSide, Tol: api.MaxBad}
	least := api.Node{Kind: 1, Parent: -1, Has: 127, Font: "-", Size: 1, Width: 1, Height: api.MaxSide}
	par := api.Node{Kind: 2, Has: 115, Font: "_", Size: 3*point + 1, Lead: 1, Skip: 65537, Tol: 1}
	var l []api.Char
	for _, r := range []int{0, 9, 10, 13, ' ', '"', '<', '>', '&', 0xA0, 0xAD, 0x7F, 0x80, 0x7FF, 0x800, 0xD7FF, 0xE000, 0xFFFD, 0xFFFF, 0x10000, 0x10FFFF} {
		l = append(l, api.Char{Rune: r})
	}
	text := api.Node{Kind: 4, Parent: 1, Chars: l}
	deep := []api.Node{doc, par}
	for len(deep) < 32 {
		deep = append(deep, api.Node{Kind: 3, Parent: len(deep) - 1, Has: 2, Size: len(deep)})
	}
	return [][]api.Node{{doc}, {least}, {doc, par, text}, {least, par, {Kind: 5, Parent: 1}, text, {Kind: 3, Parent: 1}, text}, append(deep, api.Node{Kind: 4, Parent: 31, Chars: l})}
}

// P10.5: each beginning of a document's text that ends ahead of the End of the first node has a fault at its length; the one that ends there is a document's text.
func TestCut(t *testing.T) {
	r := &numbers{state: 102}
	for range 120 {
		s := r.document()
		l, f := parse.Parse(open(enough, enough), s)
		if f.Kind != 0 {
			continue
		}
		for n := range l[0].End {
			if cut, f := holds(t, "a beginning", s[:n], enough, enough); f.Kind == 0 || f.At != n || len(cut) > 0 {
				t.Fatalf("%q, cut at %d: %v", s, n, f)
			}
		}
		if cut, f := tells(t, "all of it", s[:l[0].End]); f.Kind != 0 || !same(cut, l) {
			t.Fatalf("%q: %v", s, f)
		}
	}
}

// P10.1 to P10.4, R1: documents torn at a place or more, and any bytes.
func TestTorn(t *testing.T) {
	r := &numbers{state: 103}
	came := map[api.Errno]int{}
	for range 6000 {
		s := r.document()
		for range 1 + r.below(3) {
			s = r.torn(s)
			_, f := tells(t, "torn", s)
			came[f.Kind]++
			holds(t, "torn", s, r.below(2*len(s)+2), enough)
			holds(t, "torn", s, enough, r.below(60))
		}
		var any strings.Builder
		for range r.below(12) {
			any.WriteString(r.shred())
		}
		tells(t, "any", any.String())
		if t.Failed() {
			t.FailNow()
		}
	}
	for _, kind := range []api.Errno{0, 40, 70, 71, 80, 81, 100, 101, 102, 105} {
		if came[kind] < 10 {
			t.Errorf("%d came %d times", kind, came[kind])
		}
	}
}

// R1: long texts, longer than a document's.
func TestLong(t *testing.T) {
	long := strings.Repeat("é", 100000)
	if l, f := tells(t, "a long text", whole(long)); f.Kind != 0 || len(l) != 3 || len(l[2].Chars) != 100000 {
		t.Error(f)
	}
	fails(t, strings.Repeat(" ", 200000), 105, 200000)
	fails(t, strings.Repeat("<doc>", 50000), 100, 4)
	fails(t, strings.Repeat(`<doc width="1" height="1">`, 2000), 100, 27)
	fails(t, strings.Repeat("</p>", 50000), 100, 0)
	fails(t, first+strings.Repeat("<p></p>", 50000), 104, 26+7*8191)
	fails(t, first+"<p>"+strings.Repeat("<s>", 50000), 103, 29+90)
	fails(t, "<doc"+strings.Repeat(` width="1"`, 50000)+">", 102, 15)
}

// R4: two answers share no memory, nor do two lists of one; nor is anything of an answer told again.
func TestMemory(t *testing.T) {
	s := whole(`ab<s size="2em">c&lt;</s><br/>d`)
	m := open(enough, enough)
	want, _ := parse.Parse(m, s)
	l, _ := parse.Parse(m, s)
	other, _ := parse.Parse(m, s)
	for n := range l[:cap(l)] {
		x := &l[:cap(l)][n]
		for k := range x.Chars[:cap(x.Chars)] {
			x.Chars[:cap(x.Chars)][k] = api.Char{Rune: -n, From: k}
		}
		if n < len(l) && !same(other, want) {
			t.Fatal("another answer shows it")
		}
	}
	for n, x := range l {
		for k, c := range x.Chars {
			if c != (api.Char{Rune: -n, From: k}) {
				t.Fatal("another list of the answer shows it")
			}
		}
	}
	for n := range l[:cap(l)] {
		l[:cap(l)][n] = api.Node{Kind: 9, Font: "x"}
	}
	if again, f := parse.Parse(m, s); !same(again, want) || !same(other, want) || f.Kind != 0 {
		t.Error(again, f)
	}
}

// R5: the same on many goroutines, each with a meter of its own.
func TestSideBySide(t *testing.T) {
	r := &numbers{state: 104}
	var texts []string
	for range 50 {
		texts = append(texts, r.document(), r.torn(r.document()))
	}
	var all sync.WaitGroup
	for range 4 {
		all.Go(func() {
			for _, s := range texts {
				holds(t, "side by side", s, enough, enough)
			}
		})
	}
	all.Wait()
}

// P10.1: what a tag says in ems it says by what unit.Read reads, the size being what it is.
func TestSizes(t *testing.T) {
	r := &numbers{state: 105}
	for range 500 {
		size, _ := unit.Print(1 + r.below(api.MaxSize))
		em := strconv.Itoa(r.below(9)) + "." + strconv.Itoa(r.below(10000)) + "em"
		d, _ := unit.Read(size, 0)
		want, _ := unit.Read(em, d)
		l, f := tells(t, "sizes", first+`<p lead="`+em+`" size="`+size+`"></p></doc>`)
		if want > api.MaxSide {
			if f.Kind != 81 {
				t.Error(f)
			}
			continue
		}
		if f.Kind != 0 || l[1].Lead != want || l[1].Size != d {
			t.Errorf("%s of %s: %v, %v", em, size, l, f)
		}
	}
}
