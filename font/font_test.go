package font_test

import (
	"slices"
	"strconv"
	"strings"
	"testing"

	"platen/api"
	"platen/font"
	"platen/table"
)

// The chapter's examples.
func TestExamples(t *testing.T) {
	first := "PF1\x03\xE8\x00\x00\x00\x00"
	second := "PF1\x00\x01\x00\x01\x00\x00\x61\x00\x02\x00\x03\x00\x04\x00\x01\x00\x00\x61\x00\x00\x61\x02\x7F\xFE"
	if b, e := font.Put(bare()); b != summed(first) || e != api.OK {
		t.Errorf("Put: %x, %d", b, e)
	}
	if b, e := font.Put(small()); b != summed(second) || e != api.OK {
		t.Errorf("Put: %x, %d", b, e)
	}
	for b, want := range map[string]counted{summed(first): {steps: 13}, summed(second): {31, 2, 2, 0}} {
		m := open(t, enough, enough)
		if _, fault := font.Get(m, b); fault != (api.Fault{}) || counts(m) != want {
			t.Errorf("Get: %v, %v", fault, counts(m))
		}
	}
	finds(t, "none", "", 60, 0)
	finds(t, "51", "\x51", 60, 0)
	finds(t, "an Em of 0", "PF1\x00\x00", 60, 4)
	finds(t, "an Em of 16385", "PF1\x40\x01", 60, 4)
	last := summed(first)
	for c := range 256 {
		if byte(c) != last[12] {
			finds(t, "the last byte another one", last[:12]+string([]byte{byte(c)}), 61, 12)
		}
		finds(t, "a byte behind", last+string([]byte{byte(c)}), 60, 13)
	}
	m := open(t, 5, enough)
	if f, fault := font.Get(m, last); !same(f, api.Font{}) || fault != (api.Fault{Kind: 20}) || counts(m) != (counted{5, 0, 0, 20}) {
		t.Errorf("Get by 5 steps: %v, %v, %v", f, fault, counts(m))
	}
}

// The sum, by numbers of its own: of no bytes, and of known ones.
func TestSum(t *testing.T) {
	b, _ := font.Put(bare())
	sum := 2166136261
	for _, c := range []byte(b[:9]) {
		sum = (sum ^ int(c)) * 16777619 % (1 << 32)
	}
	if b[9:] != laid([]field{{4, sum}}) {
		t.Errorf("Put: %x, want the sum %x", b, sum)
	}
}

// P6.1: what Put answers of fonts that may be, each number at its ends too.
func TestPut(t *testing.T) {
	for n, f := range append(fonts(), whole()) {
		puts(t, strconv.Itoa(n), f)
	}
	for _, f := range []api.Font{{Em: 1}, {Em: 1, Glyphs: []api.Glyph{}, Pairs: []api.Pair{}}, {Em: 1, Glyphs: make([]api.Glyph, 0, 9), Pairs: make([]api.Pair, 0, 9)}} {
		if b := puts(t, "without glyphs", f); len(b) != 13 {
			t.Errorf("%d bytes", len(b))
		}
	}
	if b := puts(t, "whole", whole()); len(b) != 13+9*1024+9*4096+820 { // a ligature has a byte more than a kern
		t.Errorf("%d bytes", len(b))
	}
}

// P6.1, R2: table.New's error, whichever it is, and no bytes.
func TestPutErrors(t *testing.T) {
	refused := func(what string, f api.Font, want api.Errno) {
		t.Helper()
		if b, e := font.Put(f); b != "" || e != want {
			t.Errorf("%s: Put: %x, %d, want %d", what, b, e, want)
		}
	}
	refused("nothing", api.Font{}, api.ErrArg)
	refused("Em 16385", api.Font{Em: 16385}, api.ErrArg)
	refused("Em -1, and many glyphs", api.Font{Em: -1, Glyphs: make([]api.Glyph, 2000)}, api.ErrArg)
	refused("1025 glyphs", api.Font{Em: 1, Glyphs: make([]api.Glyph, 1025)}, api.ErrTableMany)
	refused("4097 pairs", api.Font{Em: 1, Pairs: make([]api.Pair, 4097)}, api.ErrTableMany)
	refused("65537 glyphs", api.Font{Em: 1, Glyphs: make([]api.Glyph, 65537)}, api.ErrTableMany)
	refused("no rune", api.Font{Em: 1, Glyphs: []api.Glyph{{Rune: 0xD800}}}, api.ErrTableGlyph)
	refused("a glyph twice", api.Font{Em: 1, Glyphs: []api.Glyph{{Rune: 5}, {Rune: 5}}}, api.ErrTableGlyph)
	refused("a pair without glyphs", api.Font{Em: 1, Pairs: []api.Pair{{Kern: 1}}}, api.ErrTablePair)
	for n := range mixed().Pairs {
		f := mixed()
		f.Pairs[n].Kern = -16385
		refused("a kern", f, api.ErrTablePair)
		f = mixed()
		slices.Reverse(f.Pairs[:n+1])
		if n > 0 {
			refused("pairs that fall", f, api.ErrTablePair)
		}
	}
}

// P6.1, R8: fonts that may be, and those with some numbers turned; each that may be is read again.
func TestPutAny(t *testing.T) {
	r := &numbers{state: 61}
	seen := map[api.Errno]int{}
	for range 20000 {
		f := r.font()
		for range r.below(3) {
			r.turn(&f)
		}
		_, e := table.New(f)
		seen[e]++
		if b := puts(t, "any", f); e == api.OK {
			takes(t, "any", b, f)
		}
		if t.Failed() {
			t.Fatalf("of %v", f)
		}
	}
	for _, e := range []api.Errno{api.OK, api.ErrArg, api.ErrTableGlyph, api.ErrTablePair} {
		if seen[e] < 500 {
			t.Errorf("%d came %d times only", e, seen[e])
		}
	}
}

// P6.2, P6.3: Get of Put is the font, by as many steps as there are bytes, by a cell for each glyph and each pair.
func TestGet(t *testing.T) {
	for n, f := range append(fonts(), whole()) {
		b, _ := font.Put(f)
		takes(t, strconv.Itoa(n), b, f)
		takes(t, strconv.Itoa(n), written(f), f)
	}
}

// P6.2: each letter, at it; another byte there is one.
func TestGetLetters(t *testing.T) {
	for at := range 3 {
		b := []byte(written(small()))
		for c := range 256 {
			if b[at] = byte(c); byte(c) != "PF1"[at] {
				finds(t, "a letter", string(b), 60, at)
				finds(t, "a letter, and no more", string(b[:at+1]), 60, at)
			}
		}
	}
}

// changed has the number of one field made another one, and a sum that is right.
func changed(f api.Font, at, n int) string {
	l := fields(f)
	l[at].n = n
	return summed(laid(l))
}

// last is the place of a field's last byte.
func last(f api.Font, at int) int { return len(laid(fields(f)[:at+1])) - 1 }

// P6.2: each number of a font at both sides of what it may be: a fault at its last byte, whatever stands behind it.
func TestGetNumbers(t *testing.T) {
	const aboveAll = 1<<24 - 1
	for _, x := range []struct {
		what       string
		at         int // the field, of mixed's
		right, bad []int
	}{
		{"Em", 3, []int{1, 255, 256, 999, 16383, 16384}, []int{0, 16385, 32768, 32769, 65535}},
		{"how many glyphs", 4, nil, []int{1025, 1026, 2048, 16384, 32768, 65535}},
		{"the first Rune", 5, []int{97}, []int{0xD800, 0xDBFF, 0xDC00, 0xDFFF, 0x110000, 0x800000, aboveAll}},
		{"a Rune", 13, []int{0xFB01}, []int{0, 97, 232, 233, 0xD800, 0xDABC, 0xDFFF, 0x110000, 0x11FFFF, 0x200000, 0x1000000 - 256}},
		{"the last Rune", 17, []int{0x1F600}, []int{0, 97, 233, 0xFB00, 0xFB01, 0xDFFF, 0x110000, aboveAll}},
		{"a Width", 14, []int{0, 1, 255, 256, 16383, 16384}, []int{16385, 32767, 32768, 65535}},
		{"a Height", 7, []int{0, 1, 255, 256, 16383, 16384}, []int{16385, 32767, 32768, 65535}},
		{"a Depth", 20, []int{0, 1, 255, 256, 16383, 16384}, []int{16385, 32767, 32768, 65535}},
		{"how many pairs", 21, nil, []int{4097, 4098, 8192, 32768, 65535}},
		{"the first Left", 22, []int{97}, []int{0, 96, 98, 0xFB02, 0x10061, 0x610000, aboveAll}},
		{"a Left", 26, []int{97}, []int{0, 96, 98, 232, 234, 0x1F601, 0x610000, aboveAll}},
		{"a Left of another pair", 30, []int{233, 0xFB01, 0x1F600}, []int{0, 96, 98, 234, 0x1F601, aboveAll}},
		{"a Left behind two pairs", 34, []int{0x1F600}, []int{97, 0, 232, 234, 0x1F601, 0x610000, aboveAll}},
		{"the first Right", 23, []int{97}, []int{0, 96, 98, 234, 0x610000, aboveAll}},
		{"a Right behind one of the same Left", 27, []int{233, 0x1F600}, []int{97, 0, 96, 98, 234, 0x1F601, aboveAll}},
		{"a Right behind one of another Left", 31, []int{97, 233, 0xFB01, 0x1F600}, []int{0, 96, 98, 234, aboveAll}},
		{"a kind", 24, []int{2}, []int{0, 3, 4, 128, 254, 255}},
		{"a kind", 32, []int{1}, []int{0, 3, 4, 128, 254, 255}},
		{"a Lig", 33, []int{97, 233, 0xFB01, 0x1F600}, []int{0, 96, 98, 0xFB00, 0xFB02, 0x610000, aboveAll}},
		{"a kern", 25, []int{32768 - 500, 32768 - 1, 32768 + 1, 32768 + 16384}, []int{0, 1, 5, 16384, 32768 - 501, 32768, 32768 + 16385, 65535}},
		{"a kern", 29, []int{32768 - 400, 32768 - 1, 32768 + 1, 32768 + 16384}, []int{0, 16383, 16384, 32768 - 401, 32768, 32768 + 16385, 65535}},
		{"a kern", 37, []int{16384, 16385, 32767, 32769, 49152}, []int{0, 16383, 32768, 49153, 65535}},
	} {
		for _, n := range x.right {
			b := changed(mixed(), x.at, n)
			if f, fault := font.Get(open(t, enough, enough), b); fault != (api.Fault{}) || written(f) != b {
				t.Errorf("%s of %d: %v", x.what, n, fault)
			}
			reads(t, x.what, b, enough, enough)
		}
		for _, n := range x.bad {
			b, at := changed(mixed(), x.at, n), last(mixed(), x.at)
			finds(t, x.what, b, 60, at)
			finds(t, x.what, b[:at+1], 60, at)
			finds(t, x.what, b[:at], 60, at) // ahead of its last byte nothing shows
			finds(t, x.what, b[:at+1]+strings.Repeat("\xFF", 50), 60, at)
		}
	}
}

// P6.2: a kern is held against the narrower of both, on whichever side that is.
func TestGetKern(t *testing.T) {
	widths := []int{0, 1, 2, 300, 16383, 16384}
	for _, left := range widths {
		for _, right := range widths {
			f := api.Font{Em: 1, Glyphs: []api.Glyph{{Rune: 1, Width: left, Height: 9}, {Rune: 2, Width: right, Depth: 9}}, Pairs: []api.Pair{{Left: 1, Right: 2}}}
			for _, k := range []int{-32768, -16385, -16384, -16383, -301, -300, -3, -2, -1, 0, 1, 16384, 16385, 32767} {
				f.Pairs[0].Kern = k
				if b := written(f); k == 0 || k > 16384 || k < -min(left, right) {
					finds(t, "a kern", b, 60, len(b)-5)
				} else {
					takes(t, "a kern", b, f)
				}
			}
		}
	}
}

// P6.2: as many glyphs and pairs as are said, up to the most; no fewer, no more.
func TestGetMany(t *testing.T) {
	f := whole()
	takes(t, "1024 glyphs, 4096 pairs", written(f), f)
	glyphs := len(fields(bare())) - 1
	pairs := len(fields(api.Font{Em: 1, Glyphs: f.Glyphs})) - 1
	for _, n := range []int{1025, 65535} {
		finds(t, "glyphs", changed(f, glyphs-1, n), 60, 6)
	}
	for _, n := range []int{4097, 65535} {
		finds(t, "pairs", changed(f, pairs, n), 60, 3+2+2+1024*9+1)
	}
	f.Glyphs = f.Glyphs[:200]
	lig := len(fields(api.Font{Em: 1, Glyphs: f.Glyphs})) + 200*4 + 3
	finds(t, "a ligature to the 200th glyph of 200", written(f), 60, last(f, lig))
}

// P6.2: without glyphs there is no pair; the rune 0 is none where it has no glyph.
func TestGetNoGlyphs(t *testing.T) {
	for _, side := range []int{0, 1, 97, 0x10FFFF} {
		b := summed(laid([]field{{1, 'P'}, {1, 'F'}, {1, '1'}, {2, 5}, {2, 0}, {2, 1}, {3, side}, {3, side}, {1, 2}, {2, 32769}}))
		finds(t, "a pair", b, 60, 11)
	}
	f := api.Font{Em: 5, Glyphs: []api.Glyph{{Rune: 97, Width: 9}}, Pairs: []api.Pair{{Left: 97, Right: 97, Is: true}}}
	finds(t, "a ligature to 0", written(f), 60, last(f, len(fields(f))-1))
	f.Glyphs = slices.Insert(f.Glyphs, 0, api.Glyph{})
	takes(t, "a ligature to 0", written(f), f)
}

// P6.2: the first one that shows, of two that are wrong; also ahead of the sum, which no one looks at then.
func TestGetFirst(t *testing.T) {
	l := fields(mixed())
	for n := range l {
		for k := range n {
			two := slices.Clone(l)
			two[n].n, two[k].n = wrong(k, n)
			b := laid(two)
			finds(t, "two wrong", b+"....", 60, last(mixed(), k))
			finds(t, "two wrong", summed(b), 60, last(mixed(), k))
		}
	}
}

// wrong is a number for each of two fields that may stand in none of mixed's.
func wrong(k, n int) (int, int) {
	of := func(at int) int {
		if l := fields(mixed()); l[at].size == 1 {
			return 255
		}
		return 0xFFFFFF
	}
	return of(n), of(k)
}

// P6.2: the sum, at its last byte, whichever of its bytes is another one.
func TestGetSum(t *testing.T) {
	for _, f := range append(fonts(), whole()) {
		b := written(f)
		for at := len(b) - 4; at < len(b); at++ {
			for _, bit := range []byte{1, 2, 16, 128, 255} {
				x := []byte(b)
				x[at] ^= bit
				finds(t, "a byte of the sum", string(x), 61, len(b)-1)
				finds(t, "a byte of the sum, and bytes behind", string(x)+b, 61, len(b)-1)
			}
		}
		finds(t, "no sum", b[:len(b)-4]+"\x00\x00\x00\x00", 61, len(b)-1)
		finds(t, "the sum of nothing", b[:len(b)-4]+"\x81\x1C\x9D\xC5", 61, len(b)-1)
		finds(t, "the sum of itself too", summed(b[:len(b)-4])[:len(b)-4]+summed(b)[len(b):], 61, len(b)-1)
	}
}

// P6.2: nothing stands behind the sum; of what does, one byte is charged, however many there are.
func TestGetBehind(t *testing.T) {
	for _, f := range fonts() {
		b := written(f)
		for _, more := range []string{"\x00", "P", b, strings.Repeat("\x00", 1<<16), strings.Repeat(b, 50)} {
			finds(t, "bytes behind", b+more, 60, len(b))
		}
	}
	long := strings.Repeat("a", 1<<26)
	finds(t, "many bytes", long, 60, 0)
	finds(t, "many bytes behind", written(mixed())+long, 60, len(written(mixed())))
}

// P6.2, W3: by all budgets, from none to more than is needed; just those that are told suffice.
func TestGetBudgets(t *testing.T) {
	for _, f := range fonts() {
		b := written(f)
		cells := len(f.Glyphs) + len(f.Pairs)
		for steps := range len(b) + 2 {
			for _, c := range []int{0, 1, cells - 1, cells, cells + 1, enough} {
				if c >= 0 {
					reads(t, "a font", b, steps, c)
					reads(t, "a byte behind", b+"a", steps, c)
					reads(t, "a sum that is wrong", b[:len(b)-1]+"\x00", steps, c)
				}
			}
		}
		for c := range cells + 2 {
			reads(t, "a font", b, len(b), c)
			reads(t, "a beginning", b[:len(b)-1], len(b), c)
		}
	}
	b := written(whole())
	for _, steps := range []int{0, 1, len(b) - 1, len(b), len(b) + 1} {
		for _, c := range []int{0, 1023, 1024, 1025, 5119, 5120, 5121} {
			reads(t, "a whole font", b, steps, c)
		}
	}
}

// P6.2: a step that is refused is told ahead of what its byte would show.
func TestGetRefusedAhead(t *testing.T) {
	for _, x := range []struct {
		b    string
		kind api.Errno
		at   int
	}{{"Q", 60, 0}, {"PF1\x00\x00", 60, 4}, {written(bare())[:12] + "?", 61, 12}, {written(bare()) + "a", 60, 13}} {
		m := open(t, x.at, 0)
		if f, fault := font.Get(m, x.b); !same(f, api.Font{}) || fault != (api.Fault{Kind: api.ErrMeterSteps}) || m.Steps() != x.at {
			t.Errorf("%d steps: %v, %v, %d steps", x.at, f, fault, m.Steps())
		}
		m = open(t, x.at+1, 0)
		if _, fault := font.Get(m, x.b); fault != (api.Fault{Kind: x.kind, At: x.at}) || m.Refused() != api.OK {
			t.Errorf("a step more than %d: %v", x.at, fault)
		}
	}
	for _, b := range []string{"", "P", "PF1\x00"} {
		m := open(t, len(b), 0)
		if _, fault := font.Get(m, b); fault != (api.Fault{Kind: api.ErrFontForm, At: len(b)}) || m.Refused() != api.OK {
			t.Errorf("the end: %v", fault)
		}
	}
}

// P6.2: on a meter with charges: they count, the peak is what it was or what comes to be; and what is charged stays, fonts one behind the other too.
func TestGetCharged(t *testing.T) {
	b := written(small())
	m := open(t, 7+31+31, 5)
	m.Step(7)
	m.Hold(4)
	m.Drop(3)
	if f, fault := font.Get(m, b); !same(f, small()) || fault != (api.Fault{}) || counts(m) != (counted{38, 3, 4, 0}) {
		t.Errorf("one: %v, %v, %v", f, fault, counts(m))
	}
	if f, fault := font.Get(m, b); !same(f, small()) || fault != (api.Fault{}) || counts(m) != (counted{69, 5, 5, 0}) {
		t.Errorf("two: %v, %v, %v", f, fault, counts(m))
	}
	if f, fault := font.Get(m, b); !same(f, api.Font{}) || fault != (api.Fault{Kind: 20}) || counts(m) != (counted{69, 5, 5, 20}) {
		t.Errorf("three: %v, %v, %v", f, fault, counts(m))
	}
}

// P6.2: on a meter that has refused, whichever of both: what it has refused, and nothing is charged.
func TestGetRefused(t *testing.T) {
	for _, b := range []string{written(small()), written(bare()), "Q", "P"} {
		m := open(t, 100, 3)
		m.Hold(4)
		if f, fault := font.Get(m, b); !same(f, api.Font{}) || fault != (api.Fault{Kind: 21}) || counts(m) != (counted{0, 3, 3, 21}) {
			t.Errorf("cells: %v, %v, %v", f, fault, counts(m))
		}
		m = open(t, 3, 100)
		m.Step(4)
		if f, fault := font.Get(m, b); !same(f, api.Font{}) || fault != (api.Fault{Kind: 20}) || counts(m) != (counted{3, 0, 0, 20}) {
			t.Errorf("steps: %v, %v, %v", f, fault, counts(m))
		}
	}
}

// P6.2, R1, R8: bytes of fonts with some put in, left out or turned, with a sum that is right or not, by many budgets.
func TestGetAny(t *testing.T) {
	r := &numbers{state: 62}
	seen := map[api.Errno]int{}
	for range 60000 {
		b := []byte(laid(fields(r.font())))
		for range r.below(3) {
			b = r.torn(b)
		}
		s := string(b)
		switch r.below(6) {
		case 0:
			s = string(r.torn([]byte(summed(s))))
		case 1:
			s += "sum?"
		default:
			s = summed(s)
		}
		seen[reads(t, "any", s, enough, enough).Kind]++
		reads(t, "any", s, r.below(len(s)+2), r.below(30))
		reads(t, "any", s, len(s), r.below(30))
		if t.Failed() {
			t.Fatalf("of %x", s)
		}
	}
	for _, k := range []api.Errno{api.OK, api.ErrFontForm, api.ErrFontSum} {
		if seen[k] < 2000 {
			t.Errorf("%d came %d times only", k, seen[k])
		}
	}
}

// torn is bytes, one of which is another one, or is put in, or left out.
func (r *numbers) torn(b []byte) []byte {
	at := r.below(len(b) + 1)
	c := byte(r.of(0, 1, 2, 3, 0x40, 0x7F, 0x80, 0xFF, r.below(256)))
	switch {
	case r.below(4) == 0:
		return slices.Insert(b, at, c)
	case at == len(b):
		return b[:r.below(len(b)+1)]
	case r.below(4) == 0:
		return slices.Delete(b, at, at+1)
	}
	b[at] = c
	return b
}

// R1, R8: bytes that are none of a font's.
func TestGetNoise(t *testing.T) {
	r := &numbers{state: 63}
	for range 20000 {
		b := []byte("PF1\x00\x05\x00")[:r.below(7)]
		for range r.below(60) {
			b = append(b, byte(r.of(0, 0, 0, 1, 2, 97, r.below(256))))
		}
		reads(t, "noise", string(b), enough, enough)
		reads(t, "noise", summed(string(b)), r.below(70), r.below(9))
		if t.Failed() {
			t.Fatalf("of %x", b)
		}
	}
}

// P6.3: one form: what Get takes Put writes again, and unlike fonts have unlike bytes.
func TestOneForm(t *testing.T) {
	r := &numbers{state: 64}
	forms := map[string]api.Font{}
	for range 20000 {
		f := r.font()
		b := puts(t, "a font", f)
		if g, is := forms[b]; is && !same(f, g) {
			t.Fatalf("%v and %v: %x", f, g, b)
		}
		forms[b] = f
		x := summed(string(r.torn([]byte(b[:len(b)-4]))))
		if g, fault := font.Get(open(t, enough, enough), x); fault == (api.Fault{}) {
			if y, e := font.Put(g); y != x || e != api.OK {
				t.Fatalf("Put of Get of %x: %x, %d", x, y, e)
			}
		}
	}
	if len(forms) < 5000 {
		t.Errorf("%d fonts only", len(forms))
	}
}

// P6.4: each byte made each other one: a fault, ahead of that byte none.
func TestTurned(t *testing.T) {
	for _, f := range fonts() {
		b := []byte(written(f))
		for at, was := range b {
			for c := range 256 {
				if b[at] = byte(c); byte(c) != was {
					isNone(t, b, at)
				}
			}
			b[at] = was
		}
	}
	b := []byte(written(whole()))
	for at := 0; at < len(b); at += 997 {
		b[at]++
		isNone(t, b, at)
		b[at]--
	}
}

func isNone(t *testing.T, b []byte, at int) {
	t.Helper()
	m := open(t, enough, enough)
	f, fault := font.Get(m, string(b))
	if fault.Kind != api.ErrFontForm && fault.Kind != api.ErrFontSum || fault.At < at || !same(f, api.Font{}) || m.Peak() != 0 {
		t.Errorf("the byte %d another one: %v, %v, %d cells", at, f, fault, m.Peak())
	}
	if _, want := model(string(b)); fault != want {
		t.Errorf("the byte %d another one: %v, want %v", at, fault, want)
	}
}

// P6.5: each beginning but all: ErrFontForm at its length, for as many steps.
func TestCut(t *testing.T) {
	for _, f := range fonts() {
		b := written(f)
		for n := range len(b) {
			finds(t, "a beginning", b[:n], 60, n)
		}
	}
	b := written(whole())
	for n := 0; n < len(b); n += 997 {
		finds(t, "a beginning", b[:n], 60, n)
	}
	finds(t, "all but one", b[:len(b)-1], 60, len(b)-1)
}

// R4: what is handed to Put stays as it was, the room behind its lists too, and is not kept.
func TestHanded(t *testing.T) {
	f := mixed()
	f.Glyphs = slices.Grow(f.Glyphs, 3)
	f.Pairs = slices.Grow(f.Pairs, 3)
	scrawl(api.Font{Glyphs: f.Glyphs[len(f.Glyphs):], Pairs: f.Pairs[len(f.Pairs):]})
	all := api.Font{Em: f.Em, Glyphs: f.Glyphs[:cap(f.Glyphs)], Pairs: f.Pairs[:cap(f.Pairs)]}
	was := copied(all)
	b := puts(t, "with room behind", f)
	if !same(all, was) {
		t.Error("Put changed what it was handed")
	}
	scrawl(f)
	if b != written(mixed()) {
		t.Error("bytes changed")
	}
	puts(t, "as before", mixed())
}

// R4, R5: what Get answers is the caller's: whatever is written there, no other answer shows it.
func TestAnswersAlone(t *testing.T) {
	for _, f := range append(fonts(), whole()) {
		b := written(f)
		first, _ := font.Get(open(t, enough, enough), b)
		second, _ := font.Get(open(t, enough, enough), b)
		scrawl(first)
		if !same(second, f) {
			t.Error("an earlier answer changed")
		}
		takes(t, "a later answer", b, f)
		scrawl(second)
		takes(t, "one more", b, f)
	}
}

// R5: many goroutines, each with a meter of its own.
func TestManyAtOnce(t *testing.T) {
	f := mixed()
	b := written(f)
	done := make(chan int)
	for n := range 8 {
		m := open(t, 100*len(b)+n, enough)
		go func() {
			wrong := 0
			for range 100 {
				g, fault := font.Get(m, b)
				c, e := font.Put(f)
				if fault != (api.Fault{}) || !same(g, f) || c != b || e != api.OK {
					wrong++
				}
				scrawl(g)
			}
			if m.Steps() != 100*len(b) || m.Held() != 800 {
				wrong++
			}
			done <- wrong
		}()
	}
	for range 8 {
		if wrong := <-done; wrong != 0 {
			t.Errorf("%d other answers", wrong)
		}
	}
}
