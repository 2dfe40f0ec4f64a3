package runes_test

import (
	"sort"
	"strings"
)

// The model knows a rune's bytes from the chapter's formulas, and nothing else: what can stand is asked of all runes there are.

// encode lays a rune's bytes as the chapter says.
func encode(r int) string {
	low := func(from int) byte { return byte(0x80 + r>>from&0x3F) }
	switch {
	case r < 0x80:
		return string([]byte{byte(r)})
	case r < 0x800:
		return string([]byte{byte(0xC0 + r>>6), low(0)})
	case r < 0x10000:
		return string([]byte{byte(0xE0 + r>>12), low(6), low(0)})
	}
	return string([]byte{byte(0xF0 + r>>18), low(12), low(6), low(0)})
}

// Runes rise as their bytes do, so they can be numbered, without the gap from D800 to DFFF, and sought by their bytes.
const many = 0x110000 - 0x800

func nth(n int) int {
	if n < 0xD800 {
		return n
	}
	return n + 0x800
}

// begun is the first rune whose bytes begin so, if there is one.
func begun(front string) (int, bool) {
	n := sort.Search(many, func(n int) bool { return encode(nth(n)) >= front })
	if n == many || !strings.HasPrefix(encode(nth(n)), front) {
		return 0, false
	}
	return nth(n), true
}

// place is where a rune begins, and the rune.
type place struct {
	at   int
	rune rune
}

// reading is what a text's runes are, where they end, and the first byte that can't stand: -1, if the text is right.
type reading struct {
	runes    []place
	end, bad int
}

func read(s string) reading {
	w := reading{bad: -1}
	for n := range len(s) {
		r, ok := begun(s[w.end : n+1])
		if !ok {
			w.bad = n
			return w
		}
		if encode(r) == s[w.end:n+1] {
			w.runes = append(w.runes, place{w.end, rune(r)})
			w.end = n + 1
		}
	}
	if w.end < len(s) {
		w.bad = len(s)
	}
	return w
}

// numbers are the same ones each time.
type numbers struct{ state uint64 }

func (r *numbers) below(n int) int {
	r.state = r.state*6364136223846793005 + 1442695040888963407
	return int(r.state>>33) % n
}

// fronts are bytes at both sides of each edge that the chapter names.
const fronts = "\x00\x20\x3C\x61\x7F\x80\x8F\x90\x9F\xA0\xBF\xC0\xC1\xC2\xDF\xE0\xE1\xEC\xED\xEE\xEF\xF0\xF1\xF3\xF4\xF5\xFE\xFF"

// odd are all texts of up to two bytes, those of three at the edges, and those of four and five that begin as a rune of three or four does.
func odd() []string {
	l := []string{""}
	for a := range 256 {
		l = append(l, string([]byte{byte(a)}))
		for b := range 256 {
			l = append(l, string([]byte{byte(a), byte(b)}))
		}
	}
	l = append(l, behind(behind(behind([]string{""}, fronts), fronts), fronts)...)
	four := behind(behind([]string{"\xE2\x82", "\xF0\x90", "\xF0\x8F", "\xF1\x80", "\xF3\xBF", "\xF4\x8F", "\xF4\x90"}, fronts), fronts)
	return append(append(l, four...), behind(four, "\x61\x80\xC2\xFF")...)
}

// behind is each text with each byte behind it.
func behind(l []string, bytes string) []string {
	var longer []string
	for _, s := range l {
		for n := range len(bytes) {
			longer = append(longer, s+bytes[n:n+1])
		}
	}
	return longer
}

// edges are runes at both ends of each width and of the gap, and FFFD.
func edges() []int {
	return []int{0, 9, 0x20, 0x3C, 0x61, 0x7F, 0x80, 0xA0, 0x7FF, 0x800, 0xFFF, 0x1000, 0x20AC, 0xCFFF, 0xD000, 0xD7FF, 0xE000, 0xFB01, 0xFFFC, 0xFFFD, 0xFFFE, 0xFFFF, 0x10000, 0x3FFFF, 0x40000, 0xFFFFF, 0x100000, 0x10FFFF}
}

// right are texts of runes, of the edges and of any others.
func right(count int) []string {
	r := &numbers{state: 4}
	l := []string{""}
	for range count {
		s := ""
		for range r.below(9) {
			if r.below(2) == 0 {
				s += encode(edges()[r.below(len(edges()))])
			} else {
				s += encode(nth(r.below(many)))
			}
		}
		l = append(l, s)
	}
	return l
}

// turned are right texts in which some bytes are other ones, or some are cut away.
func turned(count int) []string {
	r := &numbers{state: 5}
	var l []string
	for _, s := range right(count) {
		b := []byte(s)
		for range r.below(3) {
			if len(b) > 0 {
				b[r.below(len(b))] = fronts[r.below(len(fronts))]
			}
		}
		l = append(l, string(b[:r.below(len(b)+1)]), string(b))
	}
	return l
}

func texts() []string { return append(append(odd(), right(3000)...), turned(10000)...) }
