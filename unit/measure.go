package unit

import (
	"math/bits"

	"platen/api"
)

// measure is a unit: its name, and what it is as a fraction, so that nothing is rounded ahead of the end.
type measure struct {
	name     string
	num, den uint64
}

const em = "em"

var units = [6]measure{
	{"", api.One, 1},
	{"pt", api.One, 1},
	{"in", 72 * api.One, 1},
	{"mm", 360 * api.One, 127},
	{"sp", 1, 1},
	{em, 0, 1}, // a size, which only Read is told
}

func measured(name string) (measure, bool) {
	for _, u := range units {
		if u.name == name {
			return u, true
		}
	}
	return measure{}, false
}

// nearest is the whole number nearest to n * num / den, of two that are as near the greater one; unless n * num / den itself is more than a length may be. (A Calc of fix bounds what goes into it more narrowly than a text is bounded.)
func nearest(n, num, den uint64) (int, bool) {
	hi, lo := bits.Mul64(n, num)
	if hi >= den { // Div64 would panic: the quotient has more than 64 bits
		return 0, false
	}
	q, rest := bits.Div64(hi, lo, den)
	if q > api.MaxDim || q == api.MaxDim && rest > 0 {
		return 0, false
	}
	if 2*rest >= den {
		q++
	}
	return int(q), true
}
