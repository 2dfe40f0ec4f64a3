package parse_test

import (
	"regexp"
	"slices"
	"strings"

	"platen/api"
	"platen/meter"
	"platen/scan"
	"platen/unit"
)

// The model goes through the tokens as the chapter says it: at each one it asks all that is asked there in the chapter's order, and finds what is open by going up from the last node. It keeps no budget: it tells what is charged, one by one, and what comes in the end.

// story is what Parse does behind scan.Scan: its charges (a step s, a cell c, one given back -), and what it tells.
type story struct {
	charges []byte
	nodes   []api.Node
	fault   api.Fault
}

// row is one of chapter 9's attributes: its name, its bit, the kinds that may have it, the least and the most that it may be.
type row struct {
	name        string
	bit         int
	kinds       string
	least, most int
}

func rows() []row {
	const points = 65536
	return []row{
		{"width", 4, "1", 1, 8192 * points},
		{"height", 8, "1", 1, 8192 * points},
		{"font", 1, "123", 1, 32},
		{"size", 2, "123", 1, 1024 * points},
		{"lead", 16, "12", 0, 8192 * points},
		{"skip", 32, "12", 0, 8192 * points},
		{"tol", 64, "12", 0, 10000},
	}
}

func rowOf(name string) row {
	n := slices.IndexFunc(rows(), func(r row) bool { return r.name == name })
	if n < 0 {
		return row{}
	}
	return rows()[n]
}

// unended is the End of what is open.
const unended = -1

var names = []string{"", "doc", "p", "s", "", "br"}

func tell(tokens []api.Token, size int) story {
	w := &story{}
	for k, t := range tokens {
		w.charges = append(w.charges, "s"...)
		switch t.Kind {
		case 1:
			w.begin(t)
		case 2:
			w.attribute(tokens[:k], t)
		case 3:
			w.tag(tokens[:k], t)
		case 4:
			w.close(t)
		case 5:
			w.text(t)
		}
		if w.fault.Kind != 0 {
			return story{w.charges, nil, w.fault}
		}
	}
	if len(w.open()) > 0 || len(w.nodes) == 0 {
		return story{w.charges, nil, api.Fault{Kind: 105, At: size}}
	}
	return *w
}

// open are the numbers of the open elements: all of them are the last node, or it is in them.
func (w *story) open() []int {
	var l []int
	for n := len(w.nodes) - 1; n >= 0; n = w.nodes[n].Parent {
		if w.nodes[n].End == unended {
			l = slices.Insert(l, 0, n)
		}
	}
	return l
}

// inmost is the number of the innermost open element, and its kind; -1 and 0, if none is open.
func (w *story) inmost() (int, int) {
	l := w.open()
	if len(l) == 0 {
		return -1, 0
	}
	n := l[len(l)-1]
	return n, w.nodes[n].Kind
}

func (w *story) is(kind api.Errno, at int) { w.fault = api.Fault{Kind: kind, At: at} }

func (w *story) begin(t api.Token) {
	parent, in := w.inmost()
	may := map[string]bool{
		"doc": len(w.nodes) == 0,
		"p":   in == 1,
		"s":   in == 2 || in == 3,
		"br":  in == 2 || in == 3,
	}
	switch {
	case !may[t.Name]:
		w.is(100, t.At+1)
	case len(w.open()) == 32:
		w.is(103, t.At)
	case len(w.nodes) == 8192:
		w.is(104, t.At)
	default:
		w.charges = append(w.charges, "cc"...)
		w.nodes = append(w.nodes, api.Node{Kind: slices.Index(names, t.Name), Parent: parent, At: t.At, End: unended})
	}
}

// attributes are those of the tag whose tokens end the list.
func attributes(tokens []api.Token) []api.Token {
	n := len(tokens)
	for tokens[n-1].Kind == 2 {
		n--
	}
	return tokens[n:]
}

func (w *story) attribute(ahead []api.Token, t api.Token) {
	_, in := w.inmost()
	if r := rowOf(t.Name); r.bit == 0 || !strings.Contains(r.kinds, string(rune('0'+in))) {
		w.is(100, t.At)
		return
	}
	for _, a := range attributes(ahead) {
		if a.Name == t.Name {
			w.is(102, t.At)
		}
	}
}

// around is the Size of the nearest of those elements that has one.
func (w *story) around(l []int) int {
	for _, n := range slices.Backward(l) {
		if w.nodes[n].Has&2 != 0 {
			return w.nodes[n].Size
		}
	}
	return 10 * 65536
}

func (w *story) tag(ahead []api.Token, t api.Token) {
	open := w.open()
	n := open[len(open)-1]
	var sizes, others []api.Token
	for _, a := range attributes(ahead) {
		if a.Name == "size" {
			sizes = append(sizes, a)
		} else {
			others = append(others, a)
		}
	}
	for _, a := range append(sizes, others...) {
		em := w.around(open)
		if a.Name == "size" {
			em = w.around(open[:len(open)-1])
		}
		if e := value(&w.nodes[n], a, em); e != 0 {
			w.is(e, a.At+len(a.Name)+2)
			return
		}
	}
	x := &w.nodes[n]
	switch {
	case x.Kind == 1 && x.Has&12 != 12:
		w.is(100, t.At)
	case t.Empty != (x.Kind == 5):
		w.is(100, t.At)
	case x.Kind == 5:
		x.End = t.End
		w.charges = append(w.charges, "-"...)
	}
}

var someName = regexp.MustCompile(`\A[-_0-9A-Za-z]{1,32}\z`)

// value lays an attribute down in its node, or tells what is wrong with it.
func value(x *api.Node, a api.Token, em int) api.Errno {
	r := rowOf(a.Name)
	if a.Name == "font" {
		if !someName.MatchString(a.Value) {
			return 100
		}
		x.Font, x.Has = a.Value, x.Has|1
		return 0
	}
	n, e := unit.Read(a.Value, em)
	if a.Name == "tol" {
		n, e = unit.Number(a.Value)
	}
	if e == 0 && (n < r.least || n > r.most) {
		e = 81
	}
	x.Has |= r.bit
	*map[string]*int{"width": &x.Width, "height": &x.Height, "size": &x.Size, "lead": &x.Lead, "skip": &x.Skip, "tol": &x.Tol}[a.Name] = n
	return e
}

func (w *story) close(t api.Token) {
	n, in := w.inmost()
	if n == -1 {
		w.is(100, t.At)
		return
	}
	if name := names[in]; name != t.Name {
		same := 0
		for same < len(name) && strings.HasPrefix(t.Name, name[:same+1]) {
			same++
		}
		w.is(101, t.At+2+same)
		return
	}
	w.nodes[n].End = t.End
	w.charges = append(w.charges, "-"...)
}

func (w *story) text(t api.Token) {
	n, in := w.inmost()
	if in != 2 && in != 3 {
		for _, c := range slices.Backward(t.Chars) {
			if !slices.Contains([]int{0x20, 9, 0xA, 0xD}, c.Rune) {
				w.is(100, c.From)
			}
		}
		return
	}
	if len(w.nodes) == 8192 {
		w.is(104, t.At)
		return
	}
	w.charges = append(w.charges, "c"...)
	w.nodes = append(w.nodes, api.Node{Kind: 4, Parent: n, At: t.At, End: t.End, Chars: t.Chars})
}

// parsed is what a meter makes of a text's story: scan's own on it, then charge by charge.
func parsed(m *meter.Meter, s string) ([]api.Node, api.Fault) {
	tokens, f := scan.Scan(m, s)
	if f.Kind != 0 {
		return nil, f
	}
	w := tell(tokens, len(s))
	for _, c := range w.charges {
		taken := true
		switch c {
		case 's':
			taken = m.Step(1)
		case 'c':
			taken = m.Hold(1)
		case '-':
			taken = m.Drop(1)
		}
		if !taken {
			return nil, api.Fault{Kind: m.Refused()}
		}
	}
	return w.nodes, w.fault
}
