package style_test

import (
	"slices"
	"strings"

	"platen/api"
	"platen/meter"
)

// The model gathers what stands in a paragraph, cuts it at the brs, takes the blanks from both ends of each part, and groups what is left; what holds at a node it finds by going up from there. It keeps no budget: it tells what is charged, one by one, and what comes in the end.

// story is what Pars does with a document: its charges (a step s, a cell c), and what it tells.
type story struct {
	charges []byte
	pars    []api.Par
	fault   api.Fault
}

// sign is a character of a paragraph, or a br; and the number of its node.
type sign struct {
	kind int
	node int
	char api.Char
}

// kindOf is the kind of piece in which a rune stands.
func kindOf(r int) int {
	switch r {
	case 0x20, 9, 0xA, 0xD:
		return 2
	case 0xA0:
		return 3
	case 0xAD:
		return 4
	}
	return 1
}

// up are the nodes from one up to the first.
func up(l []api.Node, n int) []api.Node {
	var way []api.Node
	for ; n >= 0; n = l[n].Parent {
		way = append(way, l[n])
	}
	return way
}

// nearest is the nearest node up from one that has an attribute; where there is none, one with what holds then.
func nearest(l []api.Node, n, bit int) api.Node {
	for _, x := range up(l, n) {
		if x.Has&bit != 0 {
			return x
		}
	}
	return api.Node{Size: 10 * point, Lead: 12 * point, Skip: 0, Tol: 200}
}

func font(l []api.Node, n int) string { return nearest(l, n, 1).Font }
func size(l []api.Node, n int) int    { return nearest(l, n, 2).Size }

// below asks whether node n is below another.
func below(l []api.Node, n, other int) bool {
	for ; n >= 0; n = l[n].Parent {
		if l[n].Parent == other {
			return true
		}
	}
	return false
}

func signs(l []api.Node, par int) []sign {
	var row []sign
	for n := par + 1; n < len(l) && below(l, n, par); n++ {
		for _, c := range l[n].Chars {
			row = append(row, sign{kindOf(c.Rune), n, c})
		}
		if l[n].Kind == 5 {
			row = append(row, sign{5, n, api.Char{From: l[n].At, To: l[n].End}})
		}
	}
	return row
}

// kept are the signs but for the blanks at the ends and at brs.
func kept(row []sign) []sign {
	isBlank := func(s sign) bool { return s.kind == 2 }
	var all []sign
	for len(row) > 0 {
		end := slices.IndexFunc(row, func(s sign) bool { return s.kind == 5 })
		part, br, rest := row, []sign(nil), []sign(nil)
		if end >= 0 {
			part, br, rest = row[:end], row[end:end+1], row[end+1:]
		}
		for len(part) > 0 && isBlank(part[0]) {
			part = part[1:]
		}
		for len(part) > 0 && isBlank(part[len(part)-1]) {
			part = part[:len(part)-1]
		}
		all = append(append(all, part...), br...)
		row = rest
	}
	return all
}

// groups are the signs of one piece each.
func groups(l []api.Node, row []sign) [][]sign {
	var all [][]sign
	for n, s := range row {
		if n > 0 {
			ahead := row[n-1]
			alike := font(l, s.node) == font(l, ahead.node) && size(l, s.node) == size(l, ahead.node)
			if s.kind == ahead.kind && (s.kind == 2 || s.kind == 1 && alike) {
				all[len(all)-1] = append(all[len(all)-1], s)
				continue
			}
		}
		all = append(all, []sign{s})
	}
	return all
}

func piece(l []api.Node, group []sign) api.Piece {
	a, z := group[0], group[len(group)-1]
	p := api.Piece{Kind: a.kind, From: a.char.From, To: z.char.To, Run: api.Run{Font: font(l, a.node), Size: size(l, a.node)}}
	if a.kind == 1 {
		for _, s := range group {
			p.Run.Chars = append(p.Run.Chars, s.char)
		}
	}
	return p
}

// tell is the story of a document.
func tell(l []api.Node, fonts []string) story {
	w := story{}
	begin := map[int]int{} // how many pieces begin in a node
	for n, x := range l {
		if x.Kind != 2 {
			continue
		}
		par := api.Par{Width: l[0].Width, Lead: nearest(l, n, 16).Lead, Skip: nearest(l, n, 32).Skip, Tol: nearest(l, n, 64).Tol, At: x.At, End: x.End}
		for _, g := range groups(l, kept(signs(l, n))) {
			par.Pieces = append(par.Pieces, piece(l, g))
			begin[g[0].node]++
		}
		w.pars = append(w.pars, par)
	}
	for n, x := range l {
		w.charges = append(w.charges, 's')
		if x.Has&1 != 0 && !slices.Contains(fonts, x.Font) {
			return story{w.charges, nil, api.Fault{Kind: 110, At: x.At}}
		}
		if x.Kind == 4 && font(l, n) == "" {
			return story{w.charges, nil, api.Fault{Kind: 111, At: x.At}}
		}
		w.charges = append(w.charges, strings.Repeat("c", begin[n])...)
	}
	return w
}

// played is what a meter makes of a story, charge by charge.
func (w story) played(m *meter.Meter) ([]api.Par, api.Fault) {
	for _, c := range w.charges {
		taken := false
		if c == 's' {
			taken = m.Step(1)
		} else {
			taken = m.Hold(1)
		}
		if !taken {
			return nil, api.Fault{Kind: m.Refused()}
		}
	}
	return w.pars, w.fault
}
