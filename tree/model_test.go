package tree_test

import (
	"reflect"
	"regexp"
	"slices"
	"strconv"
	"strings"
	"unicode/utf8"

	"platen/api"
)

// The model asks of each node what the chapter says, as it says it, by going through the nodes; it writes a node by what is in it.

// row is one of the chapter's attributes: its field, its bit, the kinds that may have it, the least and the most that it may be.
type row struct {
	field       string
	bit         int
	kinds       string
	least, most int
}

// rows stand in the order in which attributes are written. Of the font the numbers are of its bytes.
func rows() []row {
	const points = 65536
	return []row{
		{"Width", 4, "1", 1, 8192 * points},
		{"Height", 8, "1", 1, 8192 * points},
		{"Font", 1, "123", 1, 32},
		{"Size", 2, "123", 1, 1024 * points},
		{"Lead", 16, "12", 0, 8192 * points},
		{"Skip", 32, "12", 0, 8192 * points},
		{"Tol", 64, "12", 0, 10000},
	}
}

var someName = regexp.MustCompile(`\A[-_0-9A-Za-z]+\z`)

// parents are the kinds that a node's Parent may have.
func parents(kind int) string { return []string{"", "", "1", "23", "23", "23"}[kind] }

func in(kind int, kinds string) bool { return strings.Contains(kinds, strconv.Itoa(kind)) }

func check(l []api.Node) (int, api.Errno) {
	if len(l) > 8192 {
		return 0, 91
	}
	for n := range l {
		if !asPlaced(l, n) || !asDeep(l, n) || !asHaving(l[n]) || !asSaying(l, n) {
			return n, 90
		}
	}
	if len(l) == 0 {
		return 0, 90
	}
	return 0, 0
}

// line are the nodes from the first one down to n, which all stand behind their Parents.
func line(l []api.Node, n int) []int {
	var way []int
	for ; n != -1; n = l[n].Parent {
		way = slices.Insert(way, 0, n)
	}
	return way
}

func asPlaced(l []api.Node, n int) bool {
	x := l[n]
	switch {
	case x.Kind < 1 || x.Kind > 5:
		return false
	case n == 0 || x.Kind == 1 || x.Parent == -1:
		return n == 0 && x.Kind == 1 && x.Parent == -1
	}
	return slices.Contains(line(l, n-1), x.Parent) && in(l[x.Parent].Kind, parents(x.Kind))
}

func asDeep(l []api.Node, n int) bool {
	others := 0
	for _, k := range line(l, n) {
		if l[k].Kind != 4 {
			others++
		}
	}
	return others <= 32
}

func asHaving(x api.Node) bool {
	all := 0
	for _, r := range rows() {
		v := reflect.ValueOf(x).FieldByName(r.field)
		has := x.Has&r.bit != 0
		switch {
		case !has && !v.IsZero(), has && !in(x.Kind, r.kinds):
			return false
		case has && r.field == "Font" && !someName.MatchString(v.String()):
			return false
		case has && (sizeOf(v) < r.least || sizeOf(v) > r.most):
			return false
		}
		all |= r.bit
	}
	return x.Has|all == all && (x.Kind != 1 || x.Has&4 != 0 && x.Has&8 != 0)
}

func sizeOf(v reflect.Value) int {
	if v.Kind() == reflect.String {
		return v.Len()
	}
	return int(v.Int())
}

func asSaying(l []api.Node, n int) bool {
	if l[n].Kind != 4 {
		return len(l[n].Chars) == 0
	}
	for _, c := range l[n].Chars {
		if int(rune(c.Rune)) != c.Rune || !utf8.ValidRune(rune(c.Rune)) {
			return false
		}
	}
	for k := n - 1; k >= 0; k-- {
		if l[k].Parent == l[n].Parent {
			return len(l[n].Chars) > 0 && l[k].Kind != 4
		}
	}
	return len(l[n].Chars) > 0
}

func kids(l []api.Node, n int) []int {
	var all []int
	if _, e := check(l); e == 0 && n >= 0 {
		for k, x := range l {
			if x.Parent == n {
				all = append(all, k)
			}
		}
	}
	return all
}

func path(l []api.Node, n int) []int {
	if _, e := check(l); e != 0 || n < 0 || n >= len(l) {
		return nil
	}
	return line(l, n)
}

func write(l []api.Node) (string, api.Errno) {
	if _, e := check(l); e != 0 {
		return "", e
	}
	below := map[int][]int{}
	for n, x := range l {
		below[x.Parent] = append(below[x.Parent], n)
	}
	return written(l, 0, below), 0
}

var signs = strings.NewReplacer("<", "&lt;", ">", "&gt;", "&", "&amp;", "\u00AD", "&shy;", "\u00A0", "&nbsp;")

// written is a node as a text, with what is below it.
func written(l []api.Node, n int, below map[int][]int) string {
	x := l[n]
	if x.Kind == 4 {
		return signs.Replace(saying(x))
	}
	if x.Kind == 5 {
		return "<br/>"
	}
	name := []string{"", "doc", "p", "s"}[x.Kind]
	s := "<" + name
	for _, r := range rows() {
		if x.Has&r.bit != 0 {
			s += " " + strings.ToLower(r.field) + `="` + valueOf(x, r.field) + `"`
		}
	}
	s += ">"
	for _, k := range below[n] {
		s += written(l, k, below)
	}
	return s + "</" + name + ">"
}

func saying(x api.Node) string {
	var b strings.Builder
	for _, c := range x.Chars {
		b.WriteRune(rune(c.Rune))
	}
	return b.String()
}

func valueOf(x api.Node, field string) string {
	v := reflect.ValueOf(x).FieldByName(field)
	if field == "Font" {
		return v.String()
	}
	n := int(v.Int())
	switch {
	case field == "Tol":
		return strconv.Itoa(n)
	case n%65536 == 0:
		return strconv.Itoa(n / 65536)
	}
	return strconv.Itoa(n) + "sp"
}

// same holds copies of both that have no places against each other.
func same(a, b []api.Node) bool {
	return len(a) == len(b) && (len(a) == 0 || reflect.DeepEqual(unplaced(a), unplaced(b)))
}

func unplaced(l []api.Node) []api.Node {
	l = copied(l)
	for n := range l {
		l[n].At, l[n].End = 0, 0
		for k := range l[n].Chars {
			l[n].Chars[k].From, l[n].Chars[k].To = 0, 0
		}
	}
	return l
}

// copied has memory of its own; characters that are none are nil.
func copied(l []api.Node) []api.Node {
	l = slices.Clone(l)
	for n := range l {
		l[n].Chars = append([]api.Char(nil), l[n].Chars...)
	}
	return l
}

var (
	somePart  = regexp.MustCompile(`<[^>]*>|[^<]+`)
	someValue = regexp.MustCompile(`([a-z]+)="([^"]*)"`)
	plain     = strings.NewReplacer("&lt;", "<", "&gt;", ">", "&amp;", "&", "&shy;", "\u00AD", "&nbsp;", "\u00A0")
)

// readBack are the nodes of a document that was written.
func readBack(s string) []api.Node {
	var l []api.Node
	open := []int{-1}
	for _, part := range somePart.FindAllString(s, -1) {
		if strings.HasPrefix(part, "</") {
			open = open[:len(open)-1]
			continue
		}
		x := api.Node{Parent: open[len(open)-1]}
		switch {
		case part == "<br/>":
			x.Kind = 5
		case part[0] != '<':
			x.Kind, x.Chars = 4, chars(plain.Replace(part))
		default:
			x.Kind = strings.Index("dps", part[1:2]) + 1
			open = append(open, len(l))
			readValues(&x, part)
		}
		l = append(l, x)
	}
	return l
}

func readValues(x *api.Node, tag string) {
	for _, m := range someValue.FindAllStringSubmatch(tag, -1) {
		for _, r := range rows() {
			if strings.ToLower(r.field) != m[1] {
				continue
			}
			x.Has |= r.bit
			v := reflect.ValueOf(x).Elem().FieldByName(r.field)
			if r.field == "Font" {
				v.SetString(m[2])
				continue
			}
			n, e := strconv.Atoi(strings.TrimSuffix(m[2], "sp"))
			if e != nil {
				panic(tag)
			}
			if r.field != "Tol" && !strings.HasSuffix(m[2], "sp") {
				n *= 65536
			}
			v.SetInt(int64(n))
		}
	}
}
