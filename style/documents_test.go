package style_test

import (
	"math"
	"slices"
	"strings"

	"platen/api"
	"platen/tree"
)

// Documents, and how they come about.

const point = 65536

// whole is the text of a document in F around what is in its paragraph.
func whole(inside string) string {
	return `<doc width="100" height="50" font="F"><p>` + inside + `</p></doc>`
}

// head is a document of its first node.
func head() []api.Node {
	return []api.Node{{Kind: 1, Parent: -1, Has: 12, Width: 100 * point, Height: 50 * point}}
}

// part is what may be in a paragraph: a character (of kind 4), a br, or a span with what is in it.
type part struct {
	node api.Node
	char api.Char
	in   []part
}

// lay adds parts to a document, below one of its nodes: characters side by side are a text.
func lay(l []api.Node, parent int, in []part) []api.Node {
	text := -1
	for _, p := range in {
		switch p.node.Kind {
		case 4:
			if text < 0 {
				text = len(l)
				l = append(l, api.Node{Kind: 4, Parent: parent, At: p.node.At})
			}
			l[text].Chars = append(l[text].Chars, p.char)
			l[text].End = p.char.To
		default:
			text = -1
			p.node.Parent = parent
			l = append(l, p.node)
			l = lay(l, len(l)-1, p.in)
		}
	}
	return l
}

// draft is a document's first node, and of each paragraph its node and what is in it.
type draft struct {
	first api.Node
	pars  []part
}

func (d draft) nodes() []api.Node { return lay([]api.Node{d.first}, 0, d.pars) }

// numbers are the same ones each time.
type numbers struct{ state uint64 }

func (r *numbers) below(n int) int {
	r.state = r.state*6364136223846793005 + 1442695040888963407
	return int(r.state>>33) % n
}

func of[T any](r *numbers, l ...T) T { return l[r.below(len(l))] }

// writer hands out places that rise.
type writer struct {
	*numbers
	at int
}

// place is one behind the last one.
func (w *writer) place() int {
	w.at += 1 + w.below(3)
	return w.at
}

func (w *writer) char() part {
	c := api.Char{Rune: int(of(w.numbers, 'a', 'b', ' ', ' ', ' ', '\n', 0xA0, 0xAD, '<', 0x10FFFF)), From: w.place()}
	c.To = w.place()
	return part{node: api.Node{Kind: 4, At: c.From}, char: c}
}

// having is a node with some of those attributes, of a few values each, so that many are alike.
func (r *numbers) having(x api.Node, bits int) api.Node {
	for _, bit := range []int{1, 2, 16, 32, 64} {
		if bits&bit == 0 || r.below(3) > 0 {
			continue
		}
		x.Has |= bit
		switch bit {
		case 1:
			x.Font = of(r, "F", "F", "G", "H")
		case 2:
			x.Size = of(r, 10*point, 12*point, 1, 1024*point)
		case 16:
			x.Lead = of(r, 0, 1, 12*point, 8192*point)
		case 32:
			x.Skip = of(r, 0, 1, 3*point, 8192*point)
		case 64:
			x.Tol = of(r, 0, 1, 200, 10000)
		}
	}
	return x
}

// parts are what is in a paragraph or a span, so deep at most.
func (w *writer) parts(deep int) []part {
	var in []part
	for range w.below(6) {
		switch n := w.below(8); {
		case n == 0:
			at := w.place()
			in = append(in, part{node: api.Node{Kind: 5, At: at, End: w.place()}})
		case n < 3 && deep > 0:
			span := part{node: w.having(api.Node{Kind: 3, At: w.place()}, 3), in: w.parts(deep - 1)}
			span.node.End = w.place()
			in = append(in, span)
		default:
			in = append(in, w.char())
		}
	}
	return in
}

// draft is one of a few paragraphs; most often the document has a font.
func (r *numbers) draft() draft {
	w := &writer{r, 0}
	d := draft{first: r.having(head()[0], 1+2+16+32+64)}
	if r.below(4) > 0 {
		d.first.Has, d.first.Font = d.first.Has|1, "F"
	}
	for range r.below(4) {
		par := part{node: r.having(api.Node{Kind: 2, At: w.place()}, 1+2+16+32+64), in: w.parts(r.below(4))}
		par.node.End = w.place()
		d.pars = append(d.pars, par)
	}
	return d
}

// silent is a document with spans put in that say nothing, or what holds there already, around any parts side by side, or none.
func (r *numbers) silent(d draft) draft {
	d.pars = slices.Clone(d.pars)
	outer := api.Node{Font: d.first.Font, Size: d.first.Size}
	if d.first.Has&2 == 0 {
		outer.Size = 10 * point
	}
	for n, par := range d.pars {
		d.pars[n].in = r.wrapped(par, outer)
	}
	return d
}

func (r *numbers) wrapped(p part, outer api.Node) []part {
	if p.node.Has&1 != 0 {
		outer.Font = p.node.Font
	}
	if p.node.Has&2 != 0 {
		outer.Size = p.node.Size
	}
	in := slices.Clone(p.in)
	for n := range in {
		if in[n].node.Kind == 3 {
			in[n].in = r.wrapped(in[n], outer)
		}
	}
	for range r.below(3) {
		from := r.below(len(in) + 1)
		to := from + r.below(len(in)-from+1)
		span := part{node: api.Node{Kind: 3, At: -1 - r.below(9), End: r.below(9)}, in: slices.Clone(in[from:to])}
		if outer.Font != "" && r.below(2) == 0 {
			span.node.Has, span.node.Font = 1, outer.Font
		}
		if r.below(2) == 0 {
			span.node.Has, span.node.Size = span.node.Has|2, outer.Size
		}
		in = slices.Replace(in, from, to, span)
	}
	return in
}

// elsewhere is a document with any places.
func (r *numbers) elsewhere(l []api.Node) []api.Node {
	place := func() int {
		return of(r, 0, 1, -1, 7, math.MaxInt, math.MinInt, r.below(1<<20), -r.below(1<<20))
	}
	l = copied(l)
	for n := range l {
		l[n].At, l[n].End = place(), place()
		for k := range l[n].Chars {
			l[n].Chars[k].From, l[n].Chars[k].To = place(), place()
		}
	}
	return l
}

// torn is a document with one thing changed, which makes it none, most often.
func (r *numbers) torn(l []api.Node) []api.Node {
	l = copied(l)
	x := &l[r.below(len(l))]
	switch r.below(7) {
	case 0:
		x.Kind = of(r, -1, 0, 1, 2, 3, 4, 5, 6, math.MinInt, math.MaxInt)
	case 1:
		x.Parent = of(r, -2, -1, 0, len(l)-1, len(l), r.below(len(l)), math.MinInt, math.MaxInt)
	case 2:
		x.Has ^= 1 << r.below(9)
	case 3:
		x.Has, x.Font = x.Has|1, of(r, "", "F", "a b", "é", strings.Repeat("x", 33), "\xFF")
	case 4:
		x.Has, x.Size = x.Has|2, of(r, 0, -1, 1, 1024*point+1, math.MinInt, math.MaxInt)
	case 5:
		x.Chars = append(x.Chars, api.Char{Rune: of(r, -1, int('x'), 0xD800, 0x110000, 0x10FFFF, math.MinInt)})
	case 6:
		n := r.below(len(l))
		l[n], *x = *x, l[n]
	}
	return l
}

// any is any nodes.
func (r *numbers) any() []api.Node {
	ends := []int{0, 1, -1, 2, 3, 4, 5, math.MaxInt, math.MinInt, 1 << 40}
	n := func() int { return of(r, ends...) }
	l := make([]api.Node, r.below(6))
	for k := range l {
		l[k] = api.Node{Kind: n(), Parent: n(), At: n(), End: n(), Has: n(), Font: of(r, "", "F", "é"), Size: n(), Width: n(), Height: n(), Lead: n(), Skip: n(), Tol: n(), Chars: []api.Char{{Rune: n(), From: n(), To: n()}}}
		if r.below(2) == 0 {
			l[k] = api.Node{Kind: 1 + r.below(5), Parent: r.below(6) - 2}
		}
	}
	if len(l) > 0 && r.below(2) == 0 {
		l[0] = head()[0]
	}
	return l
}

// copied shares nothing with the nodes that it is of.
func copied(l []api.Node) []api.Node {
	l = slices.Clone(l)
	for n := range l {
		l[n].Chars = slices.Clone(l[n].Chars)
	}
	return l
}

// names are the fonts of a draft, and others.
func (r *numbers) names() []string {
	return of(r, []string{"F", "G", "H"}, []string{"H", "G", "F", "F"}, []string{"", "F", "\xFF", "G", "H", "f"}, []string{"F", "G"}, []string{"G", "H"}, nil)
}

// isDocument asks tree.
func isDocument(l []api.Node) bool {
	_, e := tree.Check(l)
	return e == api.OK
}
