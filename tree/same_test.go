package tree_test

import (
	"math"
	"reflect"
	"slices"
	"testing"

	"platen/api"
	"platen/tree"
)

// sames holds Same against the model, both ways round.
func sames(t *testing.T, what string, a, b []api.Node) bool {
	t.Helper()
	want := same(a, b)
	if got := tree.Same(a, b); got != want {
		t.Errorf("Same of %s: %t", what, got)
	}
	if got := tree.Same(b, a); got != want {
		t.Errorf("Same of %s, turned round: %t", what, got)
	}
	return want
}

// fields are changes of one field each of any node; those of places do not count.
func fields() (count, places map[string]func(x *api.Node)) {
	count, places = map[string]func(x *api.Node){}, map[string]func(x *api.Node){}
	for _, f := range reflect.VisibleFields(reflect.TypeFor[api.Node]()) {
		change := func(x *api.Node) {
			if v := reflect.ValueOf(x).Elem().FieldByIndex(f.Index); f.Name == "Font" {
				v.SetString(v.String() + "x")
			} else {
				v.SetInt(v.Int() + 1)
			}
		}
		switch f.Name {
		case "At", "End":
			places[f.Name] = change
		case "Chars":
			count["a rune"] = func(x *api.Node) { x.Chars[len(x.Chars)-1].Rune++ }
			count["a character more"] = func(x *api.Node) { x.Chars = append(x.Chars, x.Chars[0]) }
			count["a character less"] = func(x *api.Node) { x.Chars = x.Chars[1:] }
			places["From"] = func(x *api.Node) { x.Chars[0].From-- }
			places["To"] = func(x *api.Node) { x.Chars[len(x.Chars)-1].To = math.MinInt }
		default:
			count[f.Name] = change
		}
	}
	return count, places
}

// P9.3: each field, of nodes that are a document's and of any, at each place.
func TestSame(t *testing.T) {
	count, places := fields()
	if len(count) != 13 || len(places) != 4 {
		t.Fatal(len(count), len(places))
	}
	r := &numbers{state: 93}
	for range 200 {
		a := r.any()
		if r.below(2) == 0 {
			a = r.document(6)
		}
		for n := range a {
			a[n].Chars = append(a[n].Chars, chars("xy")...)
		}
		if !sames(t, "the same", a, copied(a)) {
			t.Fatal("not the same")
		}
		for n := range a {
			for what, change := range count {
				b := copied(a)
				change(&b[n])
				if tree.Same(a, b) || tree.Same(b, a) {
					t.Errorf("Same with another %s", what)
				}
			}
			for what, change := range places {
				b := copied(a)
				change(&b[n])
				if !tree.Same(a, b) || !tree.Same(b, a) {
					t.Errorf("not Same with another %s", what)
				}
			}
			sames(t, "a beginning", a, a[:n])
			sames(t, "a rest", a, a[n+1:])
		}
	}
}

// P9.3, R3: nothing is nothing, a nil list or an empty one.
func TestSameOfNothing(t *testing.T) {
	if !tree.Same(nil, nil) || !tree.Same(nil, []api.Node{}) || !tree.Same([]api.Node{}, nil) || tree.Same(nil, d()) || tree.Same(d(), nil) || tree.Same([]api.Node{{}}, nil) {
		t.Error("of no nodes")
	}
	a, b := []api.Node{{Chars: []api.Char{}}}, []api.Node{{}}
	if !tree.Same(a, b) || !tree.Same(b, a) || !tree.Same(a, a) {
		t.Error("of no characters")
	}
	sames(t, "as many of others", make([]api.Node, 3), make([]api.Node, 3))
	sames(t, "more than a document may have", make([]api.Node, 9000), make([]api.Node, 9000))
}

// P9.5: documents are the Same just if they are written the same: what was written says all that is the Same.
func TestSameJustIfPrinted(t *testing.T) {
	r := &numbers{state: 95}
	same, other := 0, 0
	for range 3000 {
		a := r.document(1 + r.below(8))
		s, e := tree.Print(a)
		if back := readBack(s); e != api.OK || !tree.Same(a, back) {
			t.Fatalf("%q: %v", s, back)
		}
		for range 4 {
			b := r.turned(a)
			if r.below(3) == 0 {
				b = r.document(1 + r.below(2))
			}
			x, e := tree.Print(b)
			if e != api.OK {
				continue
			}
			if tree.Same(a, b) != (s == x) {
				t.Fatalf("%q, %q: Same: %t", s, x, tree.Same(a, b))
			}
			if s == x {
				same++
			} else {
				other++
			}
		}
	}
	if same < 100 || other < 1000 {
		t.Errorf("the same: %d, others: %d", same, other)
	}
}

// P9.6: each beginning of a document, and each path by itself, is one.
func TestParts(t *testing.T) {
	r := &numbers{state: 96}
	for range 500 {
		l := r.document(1 + r.below(40))
		for n := range l {
			if k, e := tree.Check(l[:n+1]); k != 0 || e != api.OK {
				t.Fatalf("the first %d of %v: %d, %d", n+1, l, k, e)
			}
			way := alone(l, tree.Path(l, n))
			if holds(t, "a path", way) != api.OK {
				t.Fatalf("the path of %d of %v", n, l)
			}
			for k := range way {
				if up := tree.Path(way, k); len(up) != k+1 {
					t.Fatal(up)
				}
			}
		}
	}
}

// alone are nodes of a path, numbered anew.
func alone(l []api.Node, way []int) []api.Node {
	var out []api.Node
	for n, k := range way {
		x := l[k]
		x.Parent = n - 1
		out = append(out, x)
	}
	return out
}

// R4: nothing that is handed in is changed, nor what stands behind its end; what is answered is the caller's.
func TestMemory(t *testing.T) {
	r := &numbers{state: 97}
	for range 300 {
		l := append(r.document(20), r.any()...)
		for n := range l {
			room := append(l[n].Chars[:len(l[n].Chars):len(l[n].Chars)], chars("room")...)
			l[n].Chars = room[:len(l[n].Chars)]
		}
		end := len(l) - r.below(len(l))
		before := copied(l)
		for n := range l {
			kids, way := tree.Kids(l[:end], n), tree.Path(l[:end], n)
			spoil(kids)
			spoil(way)
			finds(t, "what was spoilt", l[:end], n)
		}
		tree.Check(l[:end])
		tree.Print(l[:end])
		tree.Same(l[:end], l)
		if !reflect.DeepEqual(before, copied(l)) {
			t.Fatal("what was handed in has changed")
		}
		for _, x := range l {
			if behind := x.Chars[len(x.Chars) : len(x.Chars)+4]; !slices.Equal(behind, chars("room")) {
				t.Fatal("what stood behind characters has changed")
			}
		}
	}
}

// spoil writes over a list and its spare room.
func spoil(l []int) {
	for n := range l[:cap(l)] {
		l[:cap(l)][n] = -9
	}
}

// R4: of two lists each has memory of its own.
func TestNoMemoryShared(t *testing.T) {
	l := long(200)
	a, b := tree.Kids(l, 1), tree.Kids(l, 1)
	p, q := tree.Path(l, 150), tree.Path(l, 150)
	_ = append(append(a, 1, 2, 3)[:1], 9)
	_ = append(append(p, 1, 2, 3)[:1], 9)
	if !slices.Equal(b, kids(l, 1)) || !slices.Equal(q, path(l, 150)) {
		t.Error("a list shows what was written into another")
	}
}
