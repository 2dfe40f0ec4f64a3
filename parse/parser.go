package parse

import (
	"platen/api"
	"platen/meter"
)

// parser is a document, read up to a token: its nodes, the elements that are open, one within another, and the attributes of a tag that has not ended; or the fault that ended it. What it does answers whether it may go on.
type parser struct {
	meter    *meter.Meter
	elements map[string]element
	nodes    []api.Node
	open     []opened
	tag      []given
	fault    api.Fault
}

// opened is an open element: what it is, its name, its node's number, and how long an em is in it: its own size, once it has been read, ahead of that the size around.
type opened struct {
	element
	name string
	node int
	em   int
}

// usual is the size around, where no element has one.
const usual = 10 * api.One

// tokens reads them, one step each, up to the first one that can't stand.
func (p *parser) tokens(l []api.Token) bool {
reading:
	for _, t := range l {
		if !p.meter.Step(1) {
			p.refused()
			break reading
		}
		switch t.Kind {
		case api.TokOpen:
			if !p.opening(t) {
				break reading
			}
		case api.TokAttr:
			if !p.attribute(t) {
				break reading
			}
		case api.TokTag:
			if !p.tagEnd(t) {
				break reading
			}
		case api.TokClose:
			if !p.closing(t) {
				break reading
			}
		case api.TokText:
			if !p.text(t) {
				break reading
			}
		}
	}
	return p.fault.Kind == api.OK
}

// ended asks for a document at the end, which is there.
func (p *parser) ended(end int) bool {
	if len(p.open) > 0 || len(p.nodes) == 0 {
		return p.wrong(api.ErrParseEnd, end)
	}
	return true
}

func (p *parser) wrong(kind api.Errno, at int) bool {
	p.fault = api.Fault{Kind: kind, At: at}
	return false
}

func (p *parser) refused() bool { return p.wrong(p.meter.Refused(), 0) }

// within is the kind of the innermost open element; none, where none is open.
func (p *parser) within() int {
	if len(p.open) == 0 {
		return none
	}
	return p.innermost().kind
}

// innermost is for where an element is open.
func (p *parser) innermost() *opened { return &p.open[len(p.open)-1] }

// parent is the number of the innermost open element.
func (p *parser) parent() int {
	if len(p.open) == 0 {
		return -1
	}
	return p.innermost().node
}
