package font_test

import (
	"encoding/binary"
	"hash/fnv"
	"slices"
	"testing"

	"platen/api"
	"platen/font"
	"platen/meter"
	"platen/table"
)

// The model writes a font as a list of numbers, and reads one by going through the chapter's form, without a meter: what must have been charged follows from where it ends.

// field is a number of the form, by so many bytes.
type field struct{ size, n int }

func fields(f api.Font) []field {
	l := []field{{1, 'P'}, {1, 'F'}, {1, '1'}, {2, f.Em}, {2, len(f.Glyphs)}}
	for _, g := range f.Glyphs {
		l = append(l, field{3, g.Rune}, field{2, g.Width}, field{2, g.Height}, field{2, g.Depth})
	}
	l = append(l, field{2, len(f.Pairs)})
	for _, p := range f.Pairs {
		l = append(l, field{3, p.Left}, field{3, p.Right})
		if p.Is {
			l = append(l, field{1, 1}, field{3, p.Lig})
		} else {
			l = append(l, field{1, 2}, field{2, 32768 + p.Kern})
		}
	}
	return l
}

// laid is the bytes of numbers, without a sum.
func laid(l []field) string {
	var b []byte
	for _, x := range l {
		var all [8]byte
		binary.BigEndian.PutUint64(all[:], uint64(x.n))
		b = append(b, all[8-x.size:]...)
	}
	return string(b)
}

func summed(b string) string {
	h := fnv.New32a()
	h.Write([]byte(b))
	return string(h.Sum([]byte(b)))
}

func written(f api.Font) string { return summed(laid(fields(f))) }

// reading is how far the model has read; where it finds a fault, it panics with it.
type reading struct {
	b  string
	at int
}

func (r *reading) number(size int) int {
	if len(r.b)-r.at < size {
		panic(api.Fault{Kind: 60, At: len(r.b)})
	}
	n := 0
	for _, c := range []byte(r.b[r.at : r.at+size]) {
		n = 256*n + int(c)
	}
	r.at += size
	return n
}

// must tells of the number that was read last.
func (r *reading) must(is bool) {
	if !is {
		panic(api.Fault{Kind: 60, At: r.at - 1})
	}
}

func (r *reading) upTo(most int) int {
	n := r.number(2)
	r.must(n <= most)
	return n
}

func (r *reading) glyph(f *api.Font) {
	g := api.Glyph{Rune: r.number(3)}
	r.must(g.Rune < 0xD800 || 0xDFFF < g.Rune && g.Rune <= 0x10FFFF)
	for _, h := range f.Glyphs {
		r.must(h.Rune < g.Rune)
	}
	g.Width, g.Height, g.Depth = r.upTo(16384), r.upTo(16384), r.upTo(16384)
	f.Glyphs = append(f.Glyphs, g)
}

// of reads the rune of one of the glyphs.
func (r *reading) of(f *api.Font) api.Glyph {
	at := r.number(3)
	n := slices.IndexFunc(f.Glyphs, func(g api.Glyph) bool { return g.Rune == at })
	r.must(n >= 0)
	return f.Glyphs[n]
}

func (r *reading) pair(f *api.Font) {
	left := r.of(f)
	for _, p := range f.Pairs {
		r.must(p.Left <= left.Rune)
	}
	right := r.of(f)
	for _, p := range f.Pairs {
		r.must(p.Left != left.Rune || p.Right < right.Rune)
	}
	p := api.Pair{Left: left.Rune, Right: right.Rune}
	switch r.number(1) {
	case 1:
		p.Is, p.Lig = true, r.of(f).Rune
	case 2:
		p.Kern = r.number(2) - 32768
		r.must(p.Kern != 0 && p.Kern <= 16384 && -p.Kern <= left.Width && -p.Kern <= right.Width)
	default:
		r.must(false)
	}
	f.Pairs = append(f.Pairs, p)
}

func (r *reading) font() api.Font {
	for _, c := range "PF1" {
		r.must(r.number(1) == int(c))
	}
	f := api.Font{Em: r.number(2)}
	r.must(f.Em != 0 && f.Em <= 16384)
	for range r.upTo(1024) {
		r.glyph(&f)
	}
	for range r.upTo(4096) {
		r.pair(&f)
	}
	ahead := r.b[:r.at]
	r.number(4)
	if r.b[:r.at] != summed(ahead) {
		panic(api.Fault{Kind: 61, At: r.at - 1})
	}
	if r.at < len(r.b) {
		r.at++
		r.must(false)
	}
	return f
}

// model tells what Get answers with room enough.
func model(b string) (f api.Font, fault api.Fault) {
	defer func() {
		switch e := recover().(type) {
		case nil:
		case api.Fault:
			f, fault = api.Font{}, e
		default:
			panic(e)
		}
	}()
	return (&reading{b: b}).font(), fault
}

// counted is what a meter tells.
type counted struct {
	steps, held, peak int
	refused           api.Errno
}

func counts(m *meter.Meter) counted {
	return counted{m.Steps(), m.Held(), m.Peak(), m.Refused()}
}

// metered tells what Get answers on a new meter, and what the meter tells then.
func metered(b string, steps, cells int) (api.Font, api.Fault, counted) {
	f, fault := model(b)
	need := len(b)
	if fault.Kind != api.OK {
		need = min(fault.At+1, len(b)) // of a fault at the end no byte is charged
	}
	holds := len(f.Glyphs) + len(f.Pairs)
	switch {
	case need > steps:
		return api.Font{}, api.Fault{Kind: 20}, counted{steps, 0, 0, 20}
	case holds > cells:
		return api.Font{}, api.Fault{Kind: 21}, counted{need, cells, cells, 21}
	}
	return f, fault, counted{need, holds, holds, 0}
}

func open(t *testing.T, steps, cells int) *meter.Meter {
	t.Helper()
	m, e := meter.New(steps, cells)
	if e != api.OK {
		t.Fatal(e)
	}
	return m
}

func same(f, g api.Font) bool {
	return f.Em == g.Em && slices.Equal(f.Glyphs, g.Glyphs) && slices.Equal(f.Pairs, g.Pairs)
}

// enough is more than any font's bytes.
const enough = 1 << 20

// reads holds what Get tells of bytes against the model.
func reads(t *testing.T, what, b string, steps, cells int) api.Fault {
	t.Helper()
	m := open(t, steps, cells)
	f, fault := font.Get(m, b)
	want, wrong, c := metered(b, steps, cells)
	if fault != wrong || counts(m) != c || !same(f, want) {
		t.Errorf("%s: Get by %d, %d: %v, %v, want %v, %v", what, steps, cells, fault, counts(m), wrong, c)
	}
	if _, e := table.New(f); (e == api.OK) != (fault.Kind == api.OK) {
		t.Errorf("%s: New of what Get answers with %v: %d", what, fault, e)
	}
	return fault
}

// finds holds the fault that Get tells of bytes against the one that it must be, and the steps: up to the byte at fault, if there is one.
func finds(t *testing.T, what, b string, kind api.Errno, at int) {
	t.Helper()
	m := open(t, enough, enough)
	f, fault := font.Get(m, b)
	c := counted{steps: min(at+1, len(b))}
	if fault != (api.Fault{Kind: kind, At: at}) || !same(f, api.Font{}) || counts(m) != c {
		t.Errorf("%s: Get: %v, %v, %v, want {%d %d}", what, f, fault, counts(m), kind, at)
	}
	reads(t, what, b, enough, enough)
}

// takes holds that Get answers this font of these bytes.
func takes(t *testing.T, what, b string, want api.Font) {
	t.Helper()
	m := open(t, enough, enough)
	f, fault := font.Get(m, b)
	cells := len(want.Glyphs) + len(want.Pairs)
	if fault != (api.Fault{}) || !same(f, want) || counts(m) != (counted{len(b), cells, cells, 0}) {
		t.Errorf("%s: Get: %v, %v, %v", what, f, fault, counts(m))
	}
	reads(t, what, b, enough, enough)
}

// puts holds what Put answers against the model.
func puts(t *testing.T, what string, f api.Font) string {
	t.Helper()
	b, e := font.Put(f)
	if _, want := table.New(f); e != want {
		t.Errorf("%s: Put: %d, want %d", what, e, want)
	}
	switch {
	case e != api.OK && b != "":
		t.Errorf("%s: bytes with an error: %x", what, b)
	case e == api.OK && b != written(f):
		t.Errorf("%s: Put: %x, want %x", what, b, written(f))
	}
	return b
}
