package shape_test

import (
	"math/big"

	"platen/api"
	"platen/meter"
)

// The model puts a character behind a row by asking what it makes with the row's last one, and puts what that is behind the rest of the row. It finds glyphs and pairs by going through the font, and measures in fractions without an end. It keeps no budget: it tells what is charged, one by one, and what comes in the end.

// story is what Marks does with a run: its charges (a step s, a cell c), and what it tells.
type story struct {
	charges []byte
	marks   []api.Mark
	fault   api.Fault
}

// listed is a font that is asked by going through it.
type listed api.Font

func (f listed) glyph(r int) (api.Glyph, bool) {
	for _, g := range f.Glyphs {
		if g.Rune == r {
			return g, true
		}
	}
	return api.Glyph{}, false
}

// pair is no ligature, and has no kern, where there is none.
func (f listed) pair(left, right int) api.Pair {
	for _, p := range f.Pairs {
		if p.Left == left && p.Right == right {
			return p
		}
	}
	return api.Pair{}
}

// put is a row with a character behind it, and how many ligatures that made.
func (f listed) put(row []api.Char, c api.Char) ([]api.Char, int) {
	if len(row) == 0 {
		return []api.Char{c}, 0
	}
	rest, last := row[:len(row)-1], row[len(row)-1]
	p := f.pair(last.Rune, c.Rune)
	if !p.Is {
		return append(row, c), 0
	}
	row, made := f.put(rest, api.Char{Rune: p.Lig, From: last.From, To: c.To})
	return row, made + 1
}

// measure is units of an em at a size, to the nearest; 0 where it is no length, or the size is none.
func measure(size, units, em int) int {
	limit := new(big.Int).Lsh(big.NewInt(1), 46)
	wide := func(n *big.Int) bool { return new(big.Int).Abs(n).Cmp(limit) > 0 }
	if wide(big.NewInt(int64(size))) {
		return 0
	}
	whole := new(big.Int).Mul(big.NewInt(int64(size)), big.NewInt(int64(units)))
	below := whole.Sign() < 0
	// The nearest is the greatest whole number not above (2 * whole + em) / (2 * em).
	near := whole.Abs(whole).Lsh(whole, 1)
	near.Add(near, big.NewInt(int64(em)))
	near.Div(near, big.NewInt(2*int64(em)))
	if wide(near) {
		return 0
	}
	if below {
		near.Neg(near)
	}
	return int(near.Int64())
}

// tell is the story of a run.
func tell(font api.Font, r api.Run) story {
	f, w := listed(font), story{}
	var row []api.Char
	for _, c := range r.Chars {
		w.charges = append(w.charges, 's')
		if _, found := f.glyph(c.Rune); !found {
			return story{w.charges, nil, api.Fault{Kind: 120, At: c.From}}
		}
		made := 0
		row, made = f.put(row, c)
		for range made {
			w.charges = append(w.charges, 's')
		}
	}
	for n, c := range row {
		g, _ := f.glyph(c.Rune)
		kern := 0
		if n > 0 {
			w.charges = append(w.charges, 's')
			kern = f.pair(row[n-1].Rune, c.Rune).Kern
		}
		of := func(units int) int { return measure(r.Size, units, f.Em) }
		w.marks = append(w.marks, api.Mark{Rune: c.Rune, Width: of(g.Width), Height: of(g.Height), Depth: of(g.Depth), Kern: of(kern), From: c.From, To: c.To})
	}
	for range row {
		w.charges = append(w.charges, 'c')
	}
	return w
}

// played is what a meter makes of a story, charge by charge.
func (w story) played(m *meter.Meter) ([]api.Mark, api.Fault) {
	for _, c := range w.charges {
		taken := false
		if c == 's' {
			taken = m.Step(1)
		} else {
			taken = m.Hold(1)
		}
		if !taken {
			return nil, api.Fault{Kind: m.Refused()}
		}
	}
	return w.marks, w.fault
}
