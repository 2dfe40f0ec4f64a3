package tree_test

import (
	"math"
	"slices"
	"strings"
	"testing"

	"platen/api"
	"platen/tree"
	"platen/unit"
)

// checks holds Check against the model.
func checks(t *testing.T, what string, l []api.Node) (int, api.Errno) {
	t.Helper()
	want, wanted := check(l)
	n, e := tree.Check(l)
	if n != want || e != wanted {
		t.Errorf("Check of %s: %d, %d; want %d, %d", what, n, e, want, wanted)
	}
	return n, e
}

// holds holds all but Same against the model.
func holds(t *testing.T, what string, l []api.Node) api.Errno {
	t.Helper()
	_, e := checks(t, what, l)
	want, wanted := write(l)
	if s, e := tree.Print(l); s != want || e != wanted {
		t.Errorf("Print of %s: %q, %d; want %q, %d", what, s, e, want, wanted)
	}
	for n := -2; n < len(l)+2; n++ {
		finds(t, what, l, n)
	}
	for _, n := range []int{math.MinInt, math.MaxInt, 1 << 32, 1 << 62} {
		finds(t, what, l, n)
	}
	return e
}

func finds(t *testing.T, what string, l []api.Node, n int) {
	t.Helper()
	if got, want := tree.Kids(l, n), kids(l, n); !slices.Equal(got, want) {
		t.Errorf("Kids of %s, %d: %v; want %v", what, n, got, want)
	}
	if got, want := tree.Path(l, n), path(l, n); !slices.Equal(got, want) {
		t.Errorf("Path of %s, %d: %v; want %v", what, n, got, want)
	}
}

// Each of the chapter's examples.
func TestExamples(t *testing.T) {
	if n, e := tree.Check(d()); n != 0 || e != api.OK {
		t.Error(n, e)
	}
	want := `<doc width="100" height="50" font="F"><p>a&lt;<s size="12">b</s><br/></p></doc>`
	if s, e := tree.Print(d()); s != want || e != api.OK {
		t.Errorf("%q, %d", s, e)
	}
	if l := tree.Kids(d(), 1); !slices.Equal(l, []int{2, 3, 5}) {
		t.Error(l)
	}
	if l := tree.Path(d(), 4); !slices.Equal(l, []int{0, 1, 3, 4}) {
		t.Error(l)
	}
	if a, b := tree.Kids(d(), 4), tree.Path(d(), 9); len(a) > 0 || len(b) > 0 {
		t.Error(a, b)
	}
	for what, x := range map[string]struct {
		l []api.Node
		n int
		e api.Errno
	}{
		"the br in the span":         {with(5, func(x *api.Node) { x.Parent = 3 }), 0, 0},
		"the br in a text":           {with(5, func(x *api.Node) { x.Parent = 4 }), 5, 90},
		"the br in the doc":          {with(5, func(x *api.Node) { x.Parent = 0 }), 5, 90},
		"a text behind a text":       {slices.Insert(d(), 3, text(1, "c")), 3, 90},
		"no HasHeight":               {with(0, func(x *api.Node) { x.Has &^= 8 }), 0, 90},
		"no Height, and no bit":      {with(0, func(x *api.Node) { x.Has, x.Height = x.Has&^8, 0 }), 0, 90},
		"a size without its bit":     {with(0, func(x *api.Node) { x.Size = 5 }), 0, 90},
		"no nodes":                   {nil, 0, 90},
		"no nodes, in a list":        {[]api.Node{}, 0, 90},
		"a doc alone":                {[]api.Node{doc()}, 0, 0},
		"a text behind a span":       {append(d()[:5], text(1, "c")), 0, 0},
		"a text in another's parent": {append(d()[:3], span(1), text(3, "b"), text(1, "c"), text(1, "d")), 6, 90},
	} {
		if n, e := tree.Check(x.l); n != x.n || e != x.e {
			t.Errorf("%s: %d, %d; want %d, %d", what, n, e, x.n, x.e)
		}
		holds(t, what, x.l)
	}
	moved := d()
	for n := range moved {
		moved[n].At, moved[n].End = 3*n, -n
		for k := range moved[n].Chars {
			moved[n].Chars[k].From, moved[n].Chars[k].To = math.MaxInt, math.MinInt
		}
	}
	if !tree.Same(d(), moved) || holds(t, "other places", moved) != api.OK {
		t.Error("other places")
	}
}

// with is D with one node changed.
func with(n int, change func(x *api.Node)) []api.Node {
	l := d()
	change(&l[n])
	return l
}

// P9.1: rows of all kinds, each with all Parents: behind what is right anything, behind what is wrong a few.
func TestKindsAndParents(t *testing.T) {
	came := map[api.Errno]int{}
	var grow func(l []api.Node)
	grow = func(l []api.Node) {
		n, e := checks(t, "a row", l)
		came[e]++
		if t.Failed() {
			t.Fatal(l)
		}
		if e != api.OK && len(l) > 0 {
			if n != len(l)-1 {
				t.Fatalf("%v: %d is wrong only as something stands behind", l, n)
			}
			for _, more := range []api.Node{par(0), doc(), {Kind: 9}, text(1, "x")} {
				checks(t, "a wrong row and more", append(l[:len(l):len(l)], more))
			}
			return
		}
		if len(l) == 7 {
			return
		}
		for kind := range 7 {
			for parent := -2; parent < len(l)+3; parent++ {
				x := api.Node{Kind: kind, Parent: parent}
				if kind == 1 {
					x = doc()
					x.Parent = parent
				}
				if kind == 4 {
					x.Chars = chars("x")
				}
				grow(append(l[:len(l):len(l)], x))
			}
		}
	}
	grow(nil)
	if came[0] < 500 || came[90] < 10000 {
		t.Errorf("came: %v", came)
	}
}

// P9.1, R1: kinds and Parents that are none, at each place.
func TestNoKindNoParent(t *testing.T) {
	ends := []int{math.MinInt, math.MinInt + 1, -1 << 32, -65536, -3, -2, -1, 0, 1, 2, 3, 4, 5, 6, 7, 8, 63, 64, 65, 127, 128, 256, 257, 65537, 1<<32 - 1, 1 << 32, 1<<32 + 1, math.MaxInt - 1, math.MaxInt}
	for n := range d() {
		for _, v := range ends {
			holds(t, "another kind", with(n, func(x *api.Node) { x.Kind = v }))
			holds(t, "another parent", with(n, func(x *api.Node) { x.Parent = v }))
			holds(t, "other bits", with(n, func(x *api.Node) { x.Has = v }))
		}
	}
	// Parents that go round, or forward; what is wrong first is told, and nothing goes by the others.
	for what, l := range map[string][]api.Node{
		"round":              {doc(), par(2), par(1)},
		"round behind":       {doc(), par(0), span(3), span(2), br(3)},
		"itself":             {doc(), par(0), span(2)},
		"the first itself":   {par(0), par(0)},
		"the first in a doc": {par(1), doc()},
		"a doc that has one": {{Kind: 1, Parent: 0, Has: 12, Width: 1, Height: 1}},
		"forward":            {doc(), span(2), par(0)},
		"a doc in a doc":     {doc(), {Kind: 1, Parent: 0, Has: 12, Width: 1, Height: 1}},
		"a doc behind":       {doc(), par(0), doc()},
		"ended":              {doc(), par(0), par(0), text(1, "x")},
		"ended spans":        {doc(), par(0), span(1), span(2), span(1), br(3)},
		"of a doc":           {doc(), text(0, "x")},
		"of a br":            {doc(), par(0), br(1), br(2)},
	} {
		if holds(t, what, l) != api.ErrTreeNode {
			t.Error(what)
		}
	}
}

// P9.1: each attribute of each kind of node: with its bit or without, at the ends of what it may be and beyond.
func TestAttributes(t *testing.T) {
	places := []int{0, 0, 1, 3, 2, 5} // of each kind one in D
	right := map[string]int{}
	for kind := 1; kind <= 5; kind++ {
		for _, a := range rows() {
			for _, v := range []int{math.MinInt, -1 << 46, -65536, -1, 0, 1, 2, a.least - 1, a.least, a.least + 1, a.most - 1, a.most, a.most + 1, 9999, 10000, 10001, 32, 33, 65535, 65536, 65537, 1 << 26, 1<<26 + 1, 1 << 29, 1<<29 + 1, 1 << 32, 1<<32 + 1, 1 << 46, 1<<46 + 1, math.MaxInt} {
				for _, has := range []bool{true, false} {
					l := with(places[kind], func(x *api.Node) { set(x, a.field, v, has) })
					if holds(t, a.field, l) == api.OK {
						right[a.field]++
					}
				}
			}
		}
	}
	for _, a := range rows() {
		if right[a.field] < 10 {
			t.Errorf("%s is right %d times only", a.field, right[a.field])
		}
	}
}

// set gives a node a value, and a bit that says that it has one, or none that does. A font is a name of so many bytes.
func set(x *api.Node, field string, v int, has bool) {
	fields := map[string]*int{"Width": &x.Width, "Height": &x.Height, "Size": &x.Size, "Lead": &x.Lead, "Skip": &x.Skip, "Tol": &x.Tol}
	for _, a := range rows() {
		if a.field == field {
			x.Has = x.Has&^a.bit | map[bool]int{true: a.bit}[has]
		}
	}
	if p, ok := fields[field]; ok {
		*p = v
	} else {
		x.Font = strings.Repeat("x", max(0, min(v, 100)))
	}
}

// P9.1: each set of bits of each kind of node, with values that may be wherever a bit is, or everywhere; and each bit alone.
func TestBits(t *testing.T) {
	places := []int{0, 0, 1, 3, 2, 5}
	for kind := 1; kind <= 5; kind++ {
		right := 0
		for bits := range 1 << 9 {
			l := with(places[kind], func(x *api.Node) {
				for _, a := range rows() {
					set(x, a.field, map[bool]int{true: 7}[bits&a.bit != 0], bits&a.bit != 0)
				}
				x.Has = bits
			})
			if holds(t, "bits", l) == api.OK {
				right++
			}
			all := copied(l)
			for _, a := range rows() {
				set(&all[places[kind]], a.field, 7, true)
			}
			all[places[kind]].Has = bits
			checks(t, "bits, and all values", all)
		}
		if want := []int{0, 32, 32, 4, 1, 1}[kind]; right != want {
			t.Errorf("kind %d: %d sets of bits are right; want %d", kind, right, want)
		}
		for bit := range 64 {
			checks(t, "a bit", with(places[kind], func(x *api.Node) { x.Has ^= 1 << bit }))
		}
	}
}

// P9.1: a font's name: each byte, alone and at each place; each length; runes of more bytes.
func TestNames(t *testing.T) {
	named := func(s string) api.Errno {
		return holds(t, "a font "+s, []api.Node{{Kind: 1, Parent: -1, Has: 13, Width: 1, Height: 1, Font: s}})
	}
	right := 0
	for b := range 256 {
		x := string([]byte{byte(b)})
		if named(x) == api.OK {
			right++
		}
		for at := range 4 {
			named("aZ9"[:at] + x + "aZ9"[at:])
		}
	}
	if right != 64 {
		t.Errorf("%d bytes are names", right)
	}
	for n := range 70 {
		if e := named(strings.Repeat("n", n)); (e == api.OK) != (1 <= n && n <= 32) {
			t.Errorf("%d bytes: %d", n, e)
		}
	}
	for _, s := range []string{"é", "ａ", "٣", "\u017F", "\u212A", "\xFF", "a\xC3", "\xEF\xBF\xBD", "a b", " a", "a ", "a\n", "a\x00", `a"b`, "a&b", "a<b", "a.b", strings.Repeat("é", 16), strings.Repeat("x", 1<<20)} {
		if named(s) != api.ErrTreeNode {
			t.Errorf("%.20q is a name", s)
		}
	}
}

// P9.1: how deep nodes may stand: a text is not counted, all others are.
func TestDepth(t *testing.T) {
	for depth := 2; depth < 40; depth++ {
		l := tall(depth)
		wrong := max(0, depth-32)
		if n, e := tree.Check(l); (e != api.OK) != (wrong > 0) || wrong > 0 && n != 32 {
			t.Errorf("%d deep: %d, %d", depth, n, e)
		}
		for _, x := range []api.Node{text(depth-1, "x"), br(depth - 1), span(depth - 1), text(depth/2, "x"), br(1), text(1, "x"), par(0)} {
			holds(t, "depth", append(l[:depth:depth], x, br(1)))
		}
		holds(t, "depth, again and again", append(append(l[:depth:depth], br(1), span(1)), br(depth+1)))
	}
	full := tall(32)
	for what, x := range map[string]struct {
		node api.Node
		n    int
		e    api.Errno
	}{"text": {text(31, "x"), 0, 0}, "br": {br(31), 32, 90}, "span": {span(31), 32, 90}, "br above": {br(30), 0, 0}, "span above": {span(30), 0, 0}} {
		if n, e := tree.Check(append(full, x.node)); n != x.n || e != x.e {
			t.Errorf("%s: %d, %d", what, n, e)
		}
	}
}

// P9.1: too many nodes are told ahead of all else, whatever they are.
func TestMany(t *testing.T) {
	if n, e := checks(t, "most nodes", long(8192)); n != 0 || e != api.OK {
		t.Error(n, e)
	}
	s, e := tree.Print(long(8192))
	if want, _ := write(long(8192)); s != want || e != api.OK {
		t.Error(len(s), e)
	}
	finds(t, "most nodes", long(8192), 1)
	finds(t, "most nodes", long(8192), 8191)
	finds(t, "most nodes", long(8192), 8192)
	wrong := long(8192)
	wrong[8191].Kind = 9
	if n, e := checks(t, "most nodes, the last one wrong", wrong); n != 8191 || e != api.ErrTreeNode {
		t.Error(n, e)
	}
	for what, l := range map[string][]api.Node{"one more": long(8193), "one more, the first one wrong": append([]api.Node{{}}, long(8192)...), "nothing": make([]api.Node, 8193), "many more": make([]api.Node, 100000)} {
		if n, e := checks(t, what, l); n != 0 || e != api.ErrTreeMany {
			t.Errorf("%s: %d, %d", what, n, e)
		}
		if s, e := tree.Print(l); s != "" || e != api.ErrTreeMany {
			t.Errorf("%s: %.20q, %d", what, s, e)
		}
		finds(t, what, l, 0)
		finds(t, what, l, 1)
	}
}

// P9.1: what a text may say: runes alone, one at least, whatever their places.
func TestTexts(t *testing.T) {
	for _, r := range []int{math.MinInt, -1 << 32, -1, 0, 1, 9, '"', '&', '<', '>', 0x7F, 0x80, 0xA0, 0xAD, 0x7FF, 0x800, 0xD7FF, 0xD800, 0xDBFF, 0xDC00, 0xDFFF, 0xE000, 0xFFFD, 0xFFFE, 0xFFFF, 0x10000, 0x10FFFF, 0x110000, 1<<31 - 1, 1 << 31, 1 << 32, 1<<32 + 'a', math.MaxInt} {
		none := r < 0 || r > 0x10FFFF || 0xD800 <= r && r <= 0xDFFF
		for at := range 3 {
			l := with(2, func(x *api.Node) {
				x.Chars = chars("abc")
				x.Chars[at].Rune, x.Chars[at].From, x.Chars[at].To = r, math.MaxInt, -5
			})
			if e := holds(t, "a rune", l); (e == api.ErrTreeNode) != none {
				t.Errorf("%x: %d", r, e)
			}
		}
	}
	for n := range d() {
		e := holds(t, "characters", with(n, func(x *api.Node) { x.Chars = chars("xyz") }))
		if (e == api.OK) != (n == 2 || n == 4) {
			t.Errorf("characters of %d: %d", n, e)
		}
		e = holds(t, "no characters", with(n, func(x *api.Node) { x.Chars = []api.Char{} }))
		if (e == api.OK) != (n != 2 && n != 4) {
			t.Errorf("no characters of %d: %d", n, e)
		}
	}
	// Between two texts of one Parent another node of it stands; what is in that one does not count.
	for what, x := range map[string]struct {
		between []api.Node
		e       api.Errno
	}{
		"nothing": {nil, 90}, "a br": {[]api.Node{br(1)}, 0}, "a span": {[]api.Node{span(1)}, 0}, "a span and its text": {[]api.Node{span(1), text(3, "y")}, 0},
		"two texts of others": {[]api.Node{span(1), text(3, "y"), span(3), text(5, "z")}, 0},
	} {
		l := append([]api.Node{doc(), par(0), text(1, "x")}, x.between...)
		if e := holds(t, what, append(l, text(1, "x"))); e != x.e {
			t.Errorf("%s: %d", what, e)
		}
	}
	holds(t, "texts of two paragraphs", []api.Node{doc(), par(0), text(1, "x"), par(0), text(3, "y")})
	holds(t, "a long text", []api.Node{doc(), par(0), text(1, strings.Repeat("a<é", 100000))})
}

// P9.1: of more than one wrong node the first one is told.
func TestFirst(t *testing.T) {
	wrongs := []func(x *api.Node){
		func(x *api.Node) { x.Kind = 0 }, func(x *api.Node) { x.Parent = 99 }, func(x *api.Node) { x.Has = 1 << 20 }, func(x *api.Node) { x.Tol = -1 }, func(x *api.Node) { x.Chars = []api.Char{{Rune: -1}} },
	}
	for first := range d() {
		for _, one := range wrongs {
			for second := first; second < len(d()); second++ {
				for _, other := range wrongs {
					l := d()
					one(&l[first])
					other(&l[second])
					if n, e := checks(t, "two that are wrong", l); n != first || e != api.ErrTreeNode {
						t.Fatalf("%d and %d: %d, %d", first, second, n, e)
					}
				}
			}
		}
	}
}

// P9.2: the order of the attributes, and how each is written.
func TestPrint(t *testing.T) {
	l := d()
	l[0] = api.Node{Kind: 1, Parent: -1, Has: 127, Width: 1, Height: 8192 * 65536, Font: "a-Z_9", Size: 65536, Lead: 65537, Skip: 0, Tol: 200}
	l[1].Has, l[1].Font, l[1].Size, l[1].Lead, l[1].Skip, l[1].Tol = 115, "0", 1, 0, 10*65536, 0
	l[3].Has, l[3].Font, l[3].Size = 3, "G", 1024*65536
	want := `<doc width="1sp" height="8192" font="a-Z_9" size="1" lead="65537sp" skip="0" tol="200"><p font="0" size="1sp" lead="0" skip="10" tol="0">a&lt;<s font="G" size="1024">b</s><br/></p></doc>`
	if s, e := tree.Print(l); s != want || e != api.OK {
		t.Errorf("%s, %d", s, e)
	}
	l = []api.Node{doc(), par(0), span(1), span(2), span(3), text(3, `<>&"'é`+"\u00A0\u00AD\uFFFD"), br(2), br(1), par(0), par(0), text(9, "&lt;")}
	want = `<doc width="100" height="50"><p><s><s><s></s>&lt;&gt;&amp;"'é&nbsp;&shy;` + "\uFFFD" + `</s><br/></s><br/></p><p></p><p>&amp;lt;</p></doc>`
	if s, e := tree.Print(l); s != want || e != api.OK {
		t.Errorf("%s, %d", s, e)
	}
	for d := range 3000 {
		n := d * 87381 % (8192 * 65536)
		value, _ := unit.Print(n)
		s, _ := tree.Print(with(1, func(x *api.Node) { x.Has, x.Lead, x.Tol = 80, n, d }))
		if !strings.Contains(s, `<p lead="`+value+`" tol="`+valueOf(api.Node{Tol: d}, "Tol")+`">`) {
			t.Fatal(s)
		}
	}
	holds(t, "a doc alone", []api.Node{doc()})
}

// P9.1 to P9.4, R1: documents, documents with one thing changed, and any nodes.
func TestAny(t *testing.T) {
	r := &numbers{state: 91}
	came := map[api.Errno]int{}
	for range 1500 {
		l := r.document(1 + r.below(24))
		if holds(t, "a document", l) != api.OK {
			t.Fatal("no document")
		}
		for range 3 {
			l = r.turned(l)
			came[holds(t, "a turned one", l)]++
		}
		came[holds(t, "any nodes", r.any())]++
		if t.Failed() {
			t.Fatal(l)
		}
	}
	if came[0] < 500 || came[90] < 2000 {
		t.Errorf("came: %v", came)
	}
}

// P9.4: children and paths of documents: what Kids tells of a node are just those whose Path ends with it and them.
func TestKidsAndPaths(t *testing.T) {
	r := &numbers{state: 92}
	for range 300 {
		l := r.document(40)
		parents := make([]int, len(l))
		parents[0] = -1
		for n := range l {
			for _, k := range tree.Kids(l, n) {
				parents[k] = n
				if way := tree.Path(l, k); !slices.Equal(way, append(tree.Path(l, n), k)) {
					t.Fatal(n, k, way)
				}
			}
			if parents[n] != l[n].Parent || !slices.IsSorted(tree.Kids(l, n)) {
				t.Fatal(n, parents[n])
			}
		}
	}
	deep := append(tall(32), text(31, "x"))
	if way := tree.Path(deep, 32); len(way) != 33 || !slices.IsSorted(way) || way[0] != 0 || way[32] != 32 {
		t.Error(way)
	}
}
