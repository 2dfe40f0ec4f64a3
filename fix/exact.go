package fix

import (
	"math/bits"

	"platen/api"
)

// The exact answers: each can be asked for the length that it is, and whether it is one.

// maxPart is the most that a num (either way) or a den may be.
const maxPart = 1 << 20

// sum is that of two lengths, so an int has room for it.
type sum struct{ a, b int }

func (s sum) length() (int, bool) {
	n := s.a + s.b
	if !isLength(n) {
		return 0, false
	}
	return n, true
}

// product is that of a length and any number: more than an int may hold.
type product struct{ a, n int }

func (p product) length() (int, bool) {
	hi, lo := bits.Mul64(magnitude(p.a), magnitude(p.n))
	if hi > 0 {
		return 0, false
	}
	return signed(lo, (p.a < 0) != (p.n < 0))
}

// ratio is a length times num by den, to the nearest whole number.
type ratio struct{ a, num, den int }

func (r ratio) length() (int, bool) {
	if r.num < -maxPart || r.num > maxPart || r.den < 1 || r.den > maxPart {
		return 0, false
	}
	den := uint64(r.den)
	hi, lo := bits.Mul64(magnitude(r.a), magnitude(r.num))
	lo, carry := bits.Add64(lo, den/2, 0) // magnitudes are rounded, so half a den more is away from 0
	hi += carry
	if hi >= den { // Div64 would panic: the quotient has more than 64 bits
		return 0, false
	}
	q, _ := bits.Div64(hi, lo, den)
	return signed(q, (r.a < 0) != (r.num < 0))
}

// floor is the greatest whole number not above a * n / all, for a length a, and n from 0 to all: so the quotient is not above the magnitude of a, and Div64 has room for it.
func floor(a, n, all int) int {
	hi, lo := bits.Mul64(magnitude(a), uint64(n))
	q, rest := bits.Div64(hi, lo, uint64(all))
	switch {
	case a >= 0:
		return int(q)
	case rest > 0:
		return -int(q) - 1
	}
	return -int(q)
}

func isLength(a int) bool { return -api.MaxDim <= a && a <= api.MaxDim }

// magnitude is right for the least int, too: what wraps there is 2^63 again.
func magnitude(a int) uint64 {
	if a < 0 {
		return uint64(-a)
	}
	return uint64(a)
}

// signed is the length of a magnitude, if it is one.
func signed(m uint64, below bool) (int, bool) {
	switch {
	case m > api.MaxDim:
		return 0, false
	case below:
		return -int(m), true
	}
	return int(m), true
}
