package unit

import "strings"

// The most digits ahead of a point, and behind it; and those of a whole number. The digits of both sides as one number have room in 64 bits, just.
const (
	maxWhole  = 15
	maxPart   = 4
	maxNumber = 9
)

// fraction is a number as its text says it: its digits as a whole number, and how many parts of 1 they count.
type fraction struct{ digits, parts uint64 }

// decimal reads the number at the front of a text, and tells what stands behind it.
func decimal(s string) (fraction, string, bool) {
	whole, behind := digitsOf(s)
	if !upTo(maxWhole, whole) {
		return fraction{}, "", false
	}
	n := fraction{value(0, whole), 1}
	rest, point := strings.CutPrefix(behind, ".")
	if !point {
		return n, behind, true
	}
	part, behind := digitsOf(rest)
	if !upTo(maxPart, part) {
		return fraction{}, "", false
	}
	n.digits = value(n.digits, part)
	for range part {
		n.parts *= 10
	}
	return n, behind, true
}

// digitsOf parts a text into the digits at its front and what stands behind them.
func digitsOf(s string) (string, string) {
	for at, r := range s {
		if r < '0' || r > '9' {
			return s[:at], s[at:]
		}
	}
	return s, ""
}

// upTo asks for one digit at least, and so many at most.
func upTo(most int, digits string) bool { return digits != "" && len(digits) <= most }

// value is the number of digits that stand behind those of n.
func value(n uint64, digits string) uint64 {
	for _, r := range digits {
		n = 10*n + uint64(r-'0')
	}
	return n
}
