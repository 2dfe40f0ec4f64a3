package tree_test

import (
	"math"
	"reflect"
	"strings"

	"platen/api"
)

// chars are a text's, at any places.
func chars(s string) []api.Char {
	var l []api.Char
	for at, r := range s {
		l = append(l, api.Char{Rune: int(r), From: at, To: at + len(string(r))})
	}
	return l
}

func doc() api.Node {
	return api.Node{Kind: 1, Parent: -1, Has: 12, Width: 100 * 65536, Height: 50 * 65536}
}

func par(parent int) api.Node  { return api.Node{Kind: 2, Parent: parent} }
func span(parent int) api.Node { return api.Node{Kind: 3, Parent: parent} }
func br(parent int) api.Node   { return api.Node{Kind: 5, Parent: parent} }
func text(parent int, s string) api.Node {
	return api.Node{Kind: 4, Parent: parent, Chars: chars(s)}
}

// d is the chapter's D.
func d() []api.Node {
	first := doc()
	first.Has, first.Font = first.Has|1, "F"
	sized := span(1)
	sized.Has, sized.Size = 2, 12*65536
	return []api.Node{first, par(0), text(1, "a<"), sized, text(3, "b"), br(1)}
}

// tall is a document whose spans stand within one another, so deep in all.
func tall(depth int) []api.Node {
	l := []api.Node{doc(), par(0)}
	for len(l) < depth {
		l = append(l, span(len(l)-1))
	}
	return l[:depth]
}

// long is a document of so many nodes.
func long(nodes int) []api.Node {
	l := []api.Node{doc(), par(0)}
	for len(l) < nodes {
		if len(l)%2 == 0 {
			l = append(l, text(1, "x"))
		} else {
			l = append(l, br(1))
		}
	}
	return l[:nodes]
}

// numbers are the same ones each time.
type numbers struct{ state uint64 }

func (r *numbers) next() uint64 {
	r.state = r.state*6364136223846793005 + 1442695040888963407
	return r.state>>29 ^ r.state<<17
}

func (r *numbers) below(n int) int { return int(r.next() % uint64(n)) }

func of[T any](r *numbers, l []T) T { return l[r.below(len(l))] }

// document is one of so many nodes at most.
func (r *numbers) document(most int) []api.Node {
	l := []api.Node{r.having(doc())}
	for tries := 0; tries < 4*most && len(l) < most; tries++ {
		open := line(l, len(l)-1)
		x := api.Node{Kind: 2 + r.below(4), Parent: of(r, open), At: r.below(9), End: r.below(9)}
		if r.below(3) > 0 {
			x.Parent = open[len(open)-1-r.below(min(2, len(open)))]
		}
		x = r.having(x)
		if x.Kind == 4 {
			x.Chars = chars(r.text())
		}
		if _, e := check(append(l, x)); e == 0 {
			l = append(l, x)
		}
	}
	return l
}

// having is a node with some of the attributes that it may have.
func (r *numbers) having(x api.Node) api.Node {
	for _, a := range rows() {
		if !in(x.Kind, a.kinds) || r.below(3) > 0 && !(x.Kind == 1 && a.bit&12 != 0) {
			continue
		}
		x.Has |= a.bit
		if a.field == "Font" {
			x.Font = r.name()
			continue
		}
		n := of(r, []int{a.least, a.most, a.least + 1, a.most - 1, a.least + r.below(a.most), 65536 * (1 + r.below(a.most/65536+1))})
		reflect.ValueOf(&x).Elem().FieldByName(a.field).SetInt(int64(min(n, a.most)))
	}
	return x
}

func (r *numbers) name() string {
	const signs = "abcdefghijklmnopqrstuvwxyzABCDEFGHIJKLMNOPQRSTUVWXYZ0123456789-_"
	var b strings.Builder
	for range 1 + r.below(of(r, []int{1, 2, 5, 32})) {
		b.WriteByte(signs[r.below(len(signs))])
	}
	return b.String()
}

func (r *numbers) text() string {
	signs := []string{"a", "b", "<", ">", "&", `"`, "'", "/", "=", ";", "\u00A0", "\u00AD", "é", "€", "\uFFFD", "\U0010FFFF", "\x00", "\n", " ", "<br/>", "&lt;", "&amp;", "</p>"}
	s := of(r, signs)
	for range r.below(5) {
		s += of(r, signs)
	}
	return s
}

// turned is a document with one thing changed, which makes it none, most often.
func (r *numbers) turned(l []api.Node) []api.Node {
	l = copied(l)
	x := &l[r.below(len(l))]
	switch r.below(8) {
	case 0:
		x.Kind = of(r, []int{-1, 0, 1, 2, 3, 4, 5, 6, math.MinInt, math.MaxInt})
	case 1:
		x.Parent = of(r, []int{-2, -1, 0, len(l) - 1, len(l), r.below(len(l)), r.below(len(l)), math.MinInt, math.MaxInt})
	case 2:
		x.Has ^= 1 << r.below(10)
	case 3:
		a := of(r, rows())
		n := of(r, []int{0, 1, -1, a.least - 1, a.most + 1, a.most, math.MinInt, math.MaxInt, r.below(1 << 47)})
		if a.field != "Font" {
			reflect.ValueOf(x).Elem().FieldByName(a.field).SetInt(int64(n))
		}
		x.Has |= a.bit
	case 4:
		x.Font, x.Has = of(r, []string{"", "F", "a b", "é", strings.Repeat("x", 33), "\xFF", "x\x00"}), x.Has|1
	case 5:
		x.Chars = append(x.Chars, api.Char{Rune: of(r, []int{-1, 'x', 0xD800, 0x110000, 0x10FFFF, math.MinInt})})
	case 6:
		x.Chars = nil
	case 7:
		n, k := r.below(len(l)), r.below(len(l))
		l[n], l[k] = l[k], l[n]
	}
	return l
}

// any is any nodes.
func (r *numbers) any() []api.Node {
	ends := []int{0, 1, -1, 2, 3, 4, 5, math.MaxInt, math.MinInt, 1 << 40}
	l := make([]api.Node, r.below(6))
	for n := range l {
		l[n] = api.Node{Kind: of(r, ends), Parent: of(r, ends), At: of(r, ends), End: of(r, ends), Has: of(r, ends), Font: r.text(), Size: of(r, ends), Width: of(r, ends), Height: of(r, ends), Lead: of(r, ends), Skip: of(r, ends), Tol: of(r, ends), Chars: chars(r.text())}
		if r.below(2) == 0 {
			l[n] = api.Node{Kind: 1 + r.below(5), Parent: r.below(8) - 2}
		}
	}
	if len(l) > 0 && r.below(2) == 0 {
		l[0] = doc()
	}
	return l
}
