package parse

import "platen/api"

// element is what an element's name means: its kind; of which kinds the element is in which it may stand, by bits; which attributes it may have, and which it must.
type element struct {
	kind      int
	within    int
	may, must int
}

// none is the kind where no element is open.
const none = 0

// The attributes that are said together.
const (
	ofPages = api.HasWidth | api.HasHeight
	ofFonts = api.HasFont | api.HasSize
	ofLines = api.HasLead | api.HasSkip | api.HasTol
)

const (
	inNone = 1 << none
	inDoc  = 1 << api.NdDoc
	inPar  = 1<<api.NdPar | 1<<api.NdSpan
)

func elements() map[string]element {
	return map[string]element{
		"doc": {kind: api.NdDoc, within: inNone, may: ofPages | ofFonts | ofLines, must: ofPages},
		"p":   {kind: api.NdPar, within: inDoc, may: ofFonts | ofLines},
		"s":   {kind: api.NdSpan, within: inPar, may: ofFonts},
		"br":  {kind: api.NdLine, within: inPar},
	}
}

// isEmpty: its tag must end as one of an element in which nothing is.
func (e element) isEmpty() bool { return e.kind == api.NdLine }

// opening reads the beginning of an opening tag.
func (p *parser) opening(t api.Token) bool {
	e, known := p.elements[t.Name]
	switch {
	case !known, e.within>>p.within()&1 == 0, e.kind == api.NdDoc && len(p.nodes) > 0:
		return p.wrong(api.ErrParseTag, t.At+1)
	case len(p.open) == api.MaxDepth:
		return p.wrong(api.ErrParseDeep, t.At)
	case len(p.nodes) == api.MaxNodes:
		return p.wrong(api.ErrParseMany, t.At)
	case !p.meter.Hold(2): // the node, and its place among the open ones
		return p.refused()
	}
	em := usual
	if len(p.open) > 0 {
		em = p.innermost().em
	}
	n := api.Node{Kind: e.kind, Parent: p.parent(), At: t.At}
	p.open = append(p.open, opened{e, t.Name, len(p.nodes), em})
	p.nodes = append(p.nodes, n)
	return true
}

// tagEnd reads the end of an opening tag, which says that its values are all there.
func (p *parser) tagEnd(t api.Token) bool {
	if !p.values() {
		return false
	}
	o := p.innermost()
	if p.nodes[o.node].Has&o.must != o.must || t.Empty != o.isEmpty() {
		return p.wrong(api.ErrParseTag, t.At)
	}
	p.tag = p.tag[:0]
	if t.Empty {
		p.close(t.End)
	}
	return true
}

func (p *parser) closing(t api.Token) bool {
	if len(p.open) == 0 {
		return p.wrong(api.ErrParseTag, t.At)
	}
	if name := p.innermost().name; name != t.Name {
		return p.wrong(api.ErrParseClose, t.At+len("</")+common(name, t.Name))
	}
	p.close(t.End)
	return true
}

// close ends the innermost open element, and gives back the cell of its place among the open ones.
func (p *parser) close(end int) {
	p.nodes[p.innermost().node].End = end
	p.open = p.open[:len(p.open)-1]
	p.meter.Drop(1)
}

// common is how many bytes two names have in common at their beginning.
func common(a, b string) int {
	n := 0
	for n < min(len(a), len(b)) && a[n] == b[n] {
		n++
	}
	return n
}
