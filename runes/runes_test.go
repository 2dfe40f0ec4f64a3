package runes_test

import (
	"iter"
	"math"
	"slices"
	"strings"
	"testing"

	"platen/api"
	"platen/runes"
)

func fault(at int) api.Fault {
	if at < 0 {
		return api.Fault{}
	}
	return api.Fault{Kind: api.ErrRunesByte, At: at}
}

func collect(all iter.Seq2[int, rune]) []place {
	var l []place
	for at, r := range all {
		l = append(l, place{at, r})
	}
	return l
}

// P4.1: the chapter's examples and each of the edges that it names.
func TestCheckExamples(t *testing.T) {
	for s, at := range map[string]int{
		"a\xC3\xA9": -1, "": -1, "\xEF\xBF\xBD": -1, "\x00": -1,
		"\xE2\x82<": 2, "\xE2\x82": 2, "a\xFF": 1, "\x80": 0,
		"\xE0\x80\x80": 1, "\xED\xA0\x80": 1, "\xF0\x8F\xBF\xBF": 1, "\xF4\x90\x80\x80": 1, "\xC0\x80": 0,

		// Where a rune should begin.
		"\xBF": 0, "a\xC1\xBF": 1, "\xF5\x80\x80\x80": 0, "\xFE": 0, "\xC2\x80\x80": 2, "\xF4\x8F\xBF\xBF\xBF": 4,

		// The second byte.
		"\xC2\x7F": 1, "\xC2\x80": -1, "\xDF\xBF": -1, "\xDF\xC0": 1,
		"\xE0\x9F\xBF": 1, "\xE0\xA0\x80": -1, "\xE0\xC0\x80": 1,
		"\xE1\x7F\x80": 1, "\xE1\x80\x80": -1, "\xEC\xBF\xBF": -1, "\xEC\xC0\x80": 1,
		"\xED\x7F\x80": 1, "\xED\x9F\xBF": -1, "\xEE\x80\x80": -1, "\xEF\xC0\x80": 1,
		"\xF0\x90\x80\x80": -1, "\xF0\xC0\x80\x80": 1, "\xF1\x7F\x80\x80": 1, "\xF1\x80\x80\x80": -1, "\xF3\xC0\x80\x80": 1,
		"\xF4\x7F\x80\x80": 1, "\xF4\x8F\xBF\xBF": -1,

		// The third and the fourth.
		"\xE0\xA0\x7F": 2, "\xED\x9F\xC0": 2, "\xF0\x90\x7F\x80": 2, "\xF4\x8F\xC0\x80": 2, "\xF0\x90\x80\x7F": 3, "\xF4\x8F\xBF\xC0": 3,

		// The end, within a rune.
		"\xC2": 1, "\xE0": 1, "\xE0\xA0": 2, "\xED\x9F": 2, "\xF0": 1, "\xF0\x90": 2, "\xF4\x8F\xBF": 3, "aé\xF0\x9F\x98": 6,

		// The first of several; FFFD ahead of it is a rune.
		"\xEF\xBF\xBD\xFF\xEF\xBF\xBD": 3, "\xEF\xBF": 2, "\xEF\xBF<\xFF": 2, "\xFF\xE2\x82": 0,
	} {
		if f := runes.Check(s); f != fault(at) {
			t.Errorf("Check(%x): %v, want %v", s, f, fault(at))
		}
	}
}

// P4.1, P4.2: what the model says of all texts.
func TestTexts(t *testing.T) {
	for _, s := range texts() {
		want := read(s)
		if f := runes.Check(s); f != fault(want.bad) {
			t.Fatalf("Check(%x): %v, want %v", s, f, fault(want.bad))
		}
		if l := collect(runes.All(s)); !slices.Equal(l, want.runes) {
			t.Fatalf("All(%x): %x, want %x", s, l, want.runes)
		}
		if n := runes.Count(s); n != len(want.runes) {
			t.Fatalf("Count(%x): %d, want %d", s, n, len(want.runes))
		}
	}
}

// P4.1, P4.2, P4.4: each rune there is, by its bytes alone.
func TestEachRune(t *testing.T) {
	for n := range many {
		r := nth(n)
		s := encode(r)
		if f := runes.Check(s); f != fault(-1) {
			t.Fatalf("Check of the rune %x: %v", r, f)
		}
		if w := runes.Width(r); w != len(s) {
			t.Fatalf("Width(%x): %d", r, w)
		}
		for at, q := range runes.All(s) {
			if at != 0 || int(q) != r {
				t.Fatalf("All of the rune %x: %d %x", r, at, q)
			}
		}
		if runes.Count(s) != 1 {
			t.Fatalf("Count of the rune %x: %d", r, runes.Count(s))
		}
	}
}

// P4.2, P4.3: the chapter's examples.
func TestAllExamples(t *testing.T) {
	s := "a\xE2\x82\xACb\xE2\x82<"
	if l := collect(runes.All(s)); !slices.Equal(l, []place{{0, 0x61}, {1, 0x20AC}, {4, 0x62}}) {
		t.Errorf("All: %x", l)
	}
	if n := runes.Count(s); n != 3 {
		t.Errorf("Count: %d", n)
	}
	if a, b := runes.Cut(s, 2); a != "a\xE2\x82\xAC" || b != "b\xE2\x82<" {
		t.Errorf("Cut at 2: %x, %x", a, b)
	}
	if a, b := runes.Cut(s, 9); a != "a\xE2\x82\xACb" || b != "\xE2\x82<" {
		t.Errorf("Cut at 9: %x, %x", a, b)
	}
}

// P4.2: of no text, and of one that is wrong from its first byte on, there are none.
func TestAllOfNone(t *testing.T) {
	for _, s := range []string{"", "\xFF", "\xFFab", "\xE2\x82", "\xE2a", "\x80\xEF\xBF\xBD"} {
		all := runes.All(s)
		if all == nil {
			t.Fatalf("All(%x) is nil", s)
		}
		if l := collect(all); l != nil || runes.Count(s) != 0 {
			t.Errorf("All(%x): %x; Count: %d", s, l, runes.Count(s))
		}
	}
}

// P4.2 and R6: left early, gone through again, and gone through within itself.
func TestAllAgain(t *testing.T) {
	for _, s := range []string{"a\xE2\x82\xACb\xEF\xBF\xBDc", "a\xE2\x82\xACb\xEF\xBF\xBDc\xE2\x82<d"} {
		want := read(s).runes
		all := runes.All(s)
		for stop := range want {
			n := 0
			for at, r := range all {
				if (place{at, r}) != want[n] {
					t.Errorf("%d %x stands where %x should", at, r, want[n])
				}
				if l := collect(all); !slices.Equal(l, want) {
					t.Errorf("within itself: %x", l)
				}
				if n == stop {
					break
				}
				n++
			}
			if n != stop {
				t.Errorf("left at %d, not at %d", n, stop)
			}
		}
		if l := collect(all); !slices.Equal(l, want) {
			t.Errorf("again: %x", l)
		}
	}
}

// P4.2 and R6: what the variable is given later is not told.
func TestAllAtTheCall(t *testing.T) {
	s := "ab"
	all := runes.All(s)
	s = "é\xFF"
	if l := collect(all); !slices.Equal(l, []place{{0, 'a'}, {1, 'b'}}) {
		t.Errorf("%x", l)
	}
	if l := collect(runes.All(s)); !slices.Equal(l, []place{{0, 'é'}}) {
		t.Errorf("%x", l)
	}
}

// cut is what the model says of Cut.
func cut(s string, n int) (string, string) {
	w := read(s)
	end := w.end
	switch {
	case n < 0:
		end = 0
	case n < len(w.runes):
		end = w.runes[n].at
	}
	return s[:end], s[end:]
}

// ends are numbers near the ends of an int, and those that are near 0 if fewer bits are asked.
func ends() []int {
	return []int{math.MinInt, math.MinInt + 1, -1 << 32, -1<<32 + 1, -1 << 31, -256, -1, 0, 256, 1 << 31, 1 << 32, 1<<32 + 1, math.MaxInt - 1, math.MaxInt}
}

// P4.3
func TestCut(t *testing.T) {
	for _, s := range append(right(500), turned(2000)...) {
		for _, n := range append(ends(), 1, 2, 3, 4, 5, len(s)-1, len(s), len(s)+1) {
			a, b := runes.Cut(s, n)
			if wantA, wantB := cut(s, n); a != wantA || b != wantB {
				t.Fatalf("Cut(%x, %d): %x, %x; want %x, %x", s, n, a, b, wantA, wantB)
			}
		}
	}
}

// P4.4: what is no rune has no bytes.
func TestWidth(t *testing.T) {
	for r, w := range map[int]int{
		0: 1, 0x7F: 1, 0x80: 2, 0x7FF: 2, 0x800: 3, 0xD7FF: 3, 0xD800: 0, 0xDBFF: 0, 0xDFFF: 0, 0xE000: 3, 0xFFFD: 3, 0xFFFF: 3,
		0x10000: 4, 0x10FFFF: 4, 0x110000: 0, 0x1FFFFF: 0, 0x200000: 0, -1: 0, -0x61: 0, -0x10FFFF: 0,
	} {
		if n := runes.Width(r); n != w {
			t.Errorf("Width(%x): %d, want %d", r, n, w)
		}
	}
	for r := 0xD800; r <= 0xDFFF; r++ {
		if n := runes.Width(r); n != 0 {
			t.Errorf("Width(%x): %d", r, n)
		}
	}
	for _, r := range far() {
		if n := runes.Width(r); n != 0 {
			t.Errorf("Width(%x): %d", r, n)
		}
	}
}

// far are numbers that would be a rune, or a blank, if fewer bits were asked.
func far() []int {
	l := []int{math.MinInt, math.MinInt + 1, math.MaxInt - 1, math.MaxInt}
	for _, r := range []int{9, 0xA, 0xD, 0x20, 0x61, 0x800, 0x10FFFF} {
		for _, more := range []int{1 << 21, 1 << 31, 1 << 32, 1 << 40, 1 << 62} {
			l = append(l, r+more, r-more)
		}
		l = append(l, r+math.MinInt)
	}
	return l
}

// P4.4
func TestBlank(t *testing.T) {
	is := map[int]int{0x20: 1, 9: 1, 0xA: 1, 0xD: 1}
	for r := -0x300; r <= 0x110000; r++ {
		if runes.Blank(r) != (is[r] == 1) {
			t.Errorf("Blank(%x): %v", r, runes.Blank(r))
		}
	}
	for _, r := range far() {
		if runes.Blank(r) {
			t.Errorf("Blank(%x)", r)
		}
	}
}

// P4.5: a range over the string tells the same; where All ends ahead of the text's end it goes on with FFFD, of one byte.
func TestRange(t *testing.T) {
	for _, s := range texts() {
		var ranged []place
		for at, r := range s {
			ranged = append(ranged, place{at, r})
		}
		l := collect(runes.All(s))
		if runes.Check(s).Kind == api.OK {
			if !slices.Equal(l, ranged) {
				t.Fatalf("All(%x): %x, the range tells %x", s, l, ranged)
			}
			continue
		}
		right, rest := runes.Cut(s, len(s))
		if !slices.Equal(l, ranged[:len(l)]) || ranged[len(l)] != (place{len(right), 0xFFFD}) {
			t.Fatalf("All(%x): %x, the range tells %x", s, l, ranged)
		}
		if len(rest) > 1 && ranged[len(l)+1].at != len(right)+1 {
			t.Fatalf("%x: FFFD has more than a byte", s)
		}
	}
}

// P4.5: FFFD that the text has is told, FFFD that it has not is not.
func TestReplacement(t *testing.T) {
	const here = "\xEF\xBF\xBD"
	if l := collect(runes.All(here + here + "\xEF\xBF" + here)); !slices.Equal(l, []place{{0, 0xFFFD}, {3, 0xFFFD}}) {
		t.Errorf("%x", l)
	}
	if f := runes.Check(here + here + "\xEF\xBF" + here); f != fault(8) {
		t.Errorf("%v", f)
	}
	if a, b := runes.Cut(here+"\xBD"+here, 2); a != here || b != "\xBD"+here {
		t.Errorf("%x, %x", a, b)
	}
}

// P4.6: what stands ahead of the byte can go on to a right text; with the byte none of what may follow makes one.
func TestFirst(t *testing.T) {
	tails := []string{"", "a", "\x80", "\xBF", "\x80\x80", "\x80\x80\x80", "\xBF\xBD", "\xEF\xBF\xBD", "\xFF", "\xE2\x82\xAC", "a\xF0\x9F\x98"}
	for _, s := range texts() {
		f := runes.Check(s)
		if f.Kind == api.OK {
			continue
		}
		front := s[:f.At]
		w := read(front)
		r, ok := begun(front[w.end:])
		if !ok || runes.Check(front[:w.end]+encode(r)) != fault(-1) {
			t.Fatalf("Check(%x): %v, but no right text begins so", s, f)
		}
		if f.At == len(s) {
			continue
		}
		for _, tail := range tails {
			if g := runes.Check(s[:f.At+1] + tail); g != f {
				t.Fatalf("Check(%x): %v, with %x behind that byte %v", s, f, tail, g)
			}
		}
	}
}

// P4.7
func TestTwo(t *testing.T) {
	l := right(250)
	for _, a := range l {
		for _, b := range l {
			if f := runes.Check(a + b); f != fault(-1) {
				t.Fatalf("Check(%x): %v", a+b, f)
			}
			if n := runes.Count(a + b); n != runes.Count(a)+runes.Count(b) {
				t.Fatalf("Count(%x): %d", a+b, n)
			}
			want := collect(runes.All(a))
			for at, r := range runes.All(b) {
				want = append(want, place{len(a) + at, r})
			}
			if got := collect(runes.All(a + b)); !slices.Equal(got, want) {
				t.Fatalf("All(%x): %x, want %x", a+b, got, want)
			}
		}
	}
}

// P4.1 to P4.3: a text has no greatest length.
func TestLong(t *testing.T) {
	const times = 1 << 20
	s := strings.Repeat("aé€\U0001F600", times)
	if f := runes.Check(s); f != fault(-1) || runes.Count(s) != 4*times {
		t.Errorf("%v, %d runes", f, runes.Count(s))
	}
	for tail, at := range map[string]int{"\xE2\x82<": 2, "\xFF": 0, "\xF4\x8F\xBF": 3} {
		if f := runes.Check(s + tail + s); f != fault(len(s)+at) {
			t.Errorf("%v", f)
		}
		if a, b := runes.Cut(s+tail, math.MaxInt); a != s || b != tail {
			t.Errorf("cut at %d, not at %d", len(a), len(s))
		}
	}
}
