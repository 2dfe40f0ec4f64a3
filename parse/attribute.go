package parse

import (
	"slices"

	"platen/api"
	"platen/unit"
)

// attribute is one that an element can have: its name, its bit, and the least and the most that its number may be (of a font: how many bytes).
type attribute struct {
	name        string
	bit         int
	least, most int
}

var attributes = [7]attribute{
	{"width", api.HasWidth, 1, api.MaxSide},
	{"height", api.HasHeight, 1, api.MaxSide},
	{"font", api.HasFont, 1, api.MaxName},
	{"size", api.HasSize, 1, api.MaxSize},
	{"lead", api.HasLead, 0, api.MaxSide},
	{"skip", api.HasSkip, 0, api.MaxSide},
	{"tol", api.HasTol, 0, api.MaxBad},
}

// given is an attribute in a tag: which one, its value, and where that begins.
type given struct {
	attribute
	value string
	at    int
}

// attribute reads one of a tag. The size goes to the front, since the other values may be told by it.
func (p *parser) attribute(t api.Token) bool {
	a := named(t.Name)
	o := p.innermost()
	n := &p.nodes[o.node]
	switch {
	case o.may&a.bit == 0:
		return p.wrong(api.ErrParseTag, t.At)
	case n.Has&a.bit != 0:
		return p.wrong(api.ErrParseTwice, t.At)
	}
	n.Has |= a.bit
	g := given{a, t.Value, t.At + len(t.Name) + len(`="`)}
	if a.bit == api.HasSize {
		p.tag = slices.Insert(p.tag, 0, g)
	} else {
		p.tag = append(p.tag, g)
	}
	return true
}

// named finds an attribute; of a name that none has it tells one without a bit.
func named(name string) attribute {
	for _, a := range attributes {
		if a.name == name {
			return a
		}
	}
	return attribute{}
}

// values asks a tag's values, and lays them down in the element.
func (p *parser) values() bool {
	o := p.innermost()
	for _, g := range p.tag {
		if e := g.read(&p.nodes[o.node], o.em); e != api.OK {
			return p.wrong(e, g.at)
		}
		if g.bit == api.HasSize {
			o.em = p.nodes[o.node].Size
		}
	}
	return true
}

// read lays its value down in a node in which an em is so long.
func (g given) read(n *api.Node, em int) api.Errno {
	if g.bit == api.HasFont {
		if !isName(g.value) || len(g.value) < g.least || len(g.value) > g.most {
			return api.ErrParseTag
		}
		n.Font = g.value
		return api.OK
	}
	d, e := g.number(em)
	switch {
	case e != api.OK:
		return e
	case d < g.least, d > g.most:
		return api.ErrUnitRange
	}
	*g.field(n) = d
	return api.OK
}

func (g given) number(em int) (int, api.Errno) {
	if g.bit == api.HasTol {
		return unit.Number(g.value)
	}
	return unit.Read(g.value, em)
}

// field is where a node says its number.
func (g given) field(n *api.Node) *int {
	switch g.bit {
	case api.HasWidth:
		return &n.Width
	case api.HasHeight:
		return &n.Height
	case api.HasSize:
		return &n.Size
	case api.HasLead:
		return &n.Lead
	case api.HasSkip:
		return &n.Skip
	}
	return &n.Tol
}

// isName asks for the signs of a font's name.
func isName(s string) bool {
	for _, r := range s {
		switch {
		case 'a' <= r && r <= 'z', 'A' <= r && r <= 'Z', '0' <= r && r <= '9', r == '-', r == '_':
		default:
			return false
		}
	}
	return true
}
