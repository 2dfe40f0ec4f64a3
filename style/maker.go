package style

import (
	"slices"

	"platen/api"
	"platen/meter"
)

// maker is a document's paragraphs, made up to a character: the styles of the nodes so far; whether blanks there stand at an edge (of the paragraph, or of a br), where no piece comes of them; or the fault that ended it. What it does answers whether it may go on.
type maker struct {
	meter  *meter.Meter
	nodes  []api.Node
	fonts  []string
	styles []style
	pars   []api.Par
	edge   bool
	fault  api.Fault
}

// node goes through one, behind those ahead of it.
func (p *maker) node(n int) bool {
	if !p.meter.Step(1) {
		return p.refused()
	}
	s := p.enter(n)
	switch {
	case s.says(api.HasFont) && !slices.Contains(p.fonts, s.font):
		return p.wrong(api.ErrStyleFont, s.node.At)
	case s.node.Kind == api.NdText && s.isNone():
		return p.wrong(api.ErrStyleNone, s.node.At)
	}
	switch s.node.Kind {
	case api.NdPar:
		p.paragraph(s)
	case api.NdText:
		return p.text(n)
	case api.NdLine:
		return p.begin(api.PcLine, s, s.node.At, s.node.End)
	}
	return true
}

// enter tells what holds at a node, by what holds at its Parent.
func (p *maker) enter(n int) style {
	outer := usual()
	if parent := p.nodes[n].Parent; parent >= 0 {
		outer = p.styles[parent].around
	}
	s := outer.at(&p.nodes[n])
	p.styles = append(p.styles, s)
	return s
}

func (p *maker) paragraph(s style) {
	p.pars = append(p.pars, api.Par{Width: p.nodes[0].Width, Lead: s.lead, Skip: s.skip, Tol: s.tol, At: s.node.At, End: s.node.End})
	p.edge = true
}

func (p *maker) wrong(kind api.Errno, at int) bool {
	p.fault = api.Fault{Kind: kind, At: at}
	return false
}

func (p *maker) refused() bool { return p.wrong(p.meter.Refused(), 0) }
