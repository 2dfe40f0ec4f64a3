// Package fix is layer 1: lengths: see shared/doc/01-fix.md.
package fix

import "platen/api"

// Calc reckons with lengths; once an answer is none, all that follow are 0.
type Calc struct{ wrong bool }

// New is one at which nothing is wrong.
func New() *Calc { return &Calc{} }

// Add, Sub, Neg, Times; Scale: a times num by den, to the nearest, halves away from 0.
func (c *Calc) Add(a, b int) int { return c.tell(sum{a, b}.length, a, b) }

func (c *Calc) Sub(a, b int) int { return c.tell(sum{a, -b}.length, a, b) }

func (c *Calc) Neg(a int) int { return c.tell(sum{0, -a}.length, a) }

func (c *Calc) Times(a, n int) int { return c.tell(product{a, n}.length, a) }

func (c *Calc) Scale(a, num, den int) int { return c.tell(ratio{a, num, den}.length, a) }

// Wrong tells whether an answer was none.
func (c *Calc) Wrong() bool { return c.wrong }

// Clone goes its own way.
func (c *Calc) Clone() *Calc { return &Calc{c.wrong} }

// tell asks for an exact answer only once what goes into it is known to be lengths: a sum of other numbers could wrap.
func (c *Calc) tell(ask func() (int, bool), lengths ...int) int {
	for _, a := range lengths {
		if !isLength(a) {
			c.wrong = true
		}
	}
	if c.wrong {
		return 0
	}
	n, ok := ask()
	if !ok {
		c.wrong = true
		return 0
	}
	return n
}

// Share is a part of a length that is shared out by weights: floor(a * upTo / all) less floor(a * before / all).
func Share(a, before, upTo, all int) int {
	if !isLength(a) || before < 0 || before > upTo || upTo > all || all < 1 || all > api.MaxDim {
		return 0
	}
	return floor(a, upTo, all) - floor(a, before, all)
}
