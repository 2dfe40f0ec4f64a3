package fault_test

import (
	"errors"
	"fmt"
	"io/fs"
	"math"
	"strconv"
	"testing"

	"platen/api"
	"platen/fault"
)

// row is one of the chapter's table.
type row struct {
	kind  api.Errno
	name  string
	class error
}

func table() []row {
	return []row{
		{20, "steps", fault.ErrBudget}, {21, "cells", fault.ErrBudget},
		{40, "byte", fault.ErrText},
		{70, "markup", fault.ErrSyntax}, {71, "entity", fault.ErrSyntax}, {80, "length", fault.ErrSyntax}, {100, "tag", fault.ErrSyntax},
		{101, "close", fault.ErrSyntax}, {102, "twice", fault.ErrSyntax}, {105, "end", fault.ErrSyntax},
		{60, "form", fault.ErrFont}, {61, "sum", fault.ErrFont}, {110, "font", fault.ErrFont}, {111, "none", fault.ErrFont}, {120, "glyph", fault.ErrFont},
		{72, "long", fault.ErrLimit}, {103, "deep", fault.ErrLimit}, {104, "nodes", fault.ErrLimit}, {130, "items", fault.ErrLimit}, {150, "breaks", fault.ErrLimit},
		{81, "range", fault.ErrRange},
	}
}

func classes() []error {
	return []error{fault.ErrBudget, fault.ErrSyntax, fault.ErrText, fault.ErrFont, fault.ErrLimit, fault.ErrRange}
}

// edges are numbers near 0 and near the ends of an int, and those that would be a kind if fewer bits were asked.
func edges() []int {
	l := []int{math.MinInt, math.MinInt + 1, math.MaxInt - 1, math.MaxInt, 0, 1, -1, 7, -7, 9, -9, 10, -10}
	for _, k := range []int{0, 20, 40, 81, 150} {
		l = append(l, -k, k+1<<8, k+1<<16, k+1<<31, k+1<<32, k+1<<62, k-1<<32)
	}
	return l
}

// rows are the table's, and of all other numbers some hundreds; those have no name and no class, but 0.
func rows() []row {
	known := map[api.Errno]row{0: {0, "ok", nil}}
	for _, r := range table() {
		known[r.kind] = r
	}
	var kinds []int
	for n := -400; n <= 400; n++ {
		kinds = append(kinds, n)
	}
	var l []row
	for _, n := range append(kinds, edges()...) {
		r := known[api.Errno(n)]
		r.kind = api.Errno(n)
		l = append(l, r)
	}
	return l
}

// text is what an error of this row says.
func (r row) text(at int) string {
	if r.name == "" {
		return fmt.Sprintf("error %d at %d", int(r.kind), at)
	}
	return fmt.Sprintf("%s at %d", r.name, at)
}

// holds asks an error for its class: by errors.Is it is of this one, and of no other.
func (r row) holds(t *testing.T, e error) {
	t.Helper()
	for _, c := range classes() {
		if is := errors.Is(e, c); is != (c == r.class) {
			t.Errorf("%v: of the class %v: %v", e, c, is)
		}
	}
}

// isFault holds what Of answers against the fault that it must be.
func isFault(t *testing.T, e error, want api.Fault) {
	t.Helper()
	if f, found := fault.Of(e); f != want || !found {
		t.Errorf("Of(%v): %v, %v, want %v", e, f, found, want)
	}
}

func isNone(t *testing.T, what string, e error) {
	t.Helper()
	if f, found := fault.Of(e); f != (api.Fault{}) || found {
		t.Errorf("Of %s: %v, %v", what, f, found)
	}
}

// The six errors, by the texts that they are made of.
func TestClasses(t *testing.T) {
	texts := []string{"budget", "syntax", "text", "font", "limit", "range"}
	for i, c := range classes() {
		if c.Error() != texts[i] {
			t.Errorf("%v, want %s", c, texts[i])
		}
		for j, other := range classes() {
			if errors.Is(c, other) != (i == j) {
				t.Errorf("%v and %v are one", c, other)
			}
		}
	}
}

// P3.1
func TestName(t *testing.T) {
	for _, r := range rows() {
		if n := fault.Name(r.kind); n != r.name {
			t.Errorf("Name(%d): %q, want %q", r.kind, n, r.name)
		}
	}
}

// P3.1: the table by the names that package api has for its numbers.
func TestNameByErrno(t *testing.T) {
	for k, want := range map[api.Errno]string{
		api.OK: "ok", api.ErrArg: "", api.ErrFixRange: "",
		api.ErrMeterSteps: "steps", api.ErrMeterCells: "cells", api.ErrRunesByte: "byte",
		api.ErrTableMany: "", api.ErrTableGlyph: "", api.ErrTablePair: "",
		api.ErrFontForm: "form", api.ErrFontSum: "sum",
		api.ErrScanByte: "markup", api.ErrScanEntity: "entity", api.ErrScanLong: "long",
		api.ErrUnitForm: "length", api.ErrUnitRange: "range", api.ErrTreeNode: "", api.ErrTreeMany: "",
		api.ErrParseTag: "tag", api.ErrParseClose: "close", api.ErrParseTwice: "twice",
		api.ErrParseDeep: "deep", api.ErrParseMany: "nodes", api.ErrParseEnd: "end",
		api.ErrStyleFont: "font", api.ErrStyleNone: "none", api.ErrShapeGlyph: "glyph",
		api.ErrItemsMany: "items", api.ErrBreaksMany: "breaks", api.ErrPageArg: "", api.ErrAnswerForm: "",
		api.ErrServiceKind: "", api.ErrServiceName: "", api.ErrServiceMany: "", api.ErrServiceNone: "", api.ErrServiceLong: "",
		api.ErrImageForm: "", api.ErrWeaveMany: "",
	} {
		if n := fault.Name(k); n != want {
			t.Errorf("Name(%d): %q, want %q", k, n, want)
		}
	}
}

// P3.2: nothing is wrong, wherever.
func TestErrorOfNothing(t *testing.T) {
	for _, at := range edges() {
		if e := fault.Error(api.Fault{At: at}); e != nil {
			t.Errorf("Error({0, %d}): %v", at, e)
		}
	}
}

// P3.2
func TestError(t *testing.T) {
	for _, r := range rows() {
		if r.kind == api.OK {
			continue
		}
		for _, at := range edges() {
			l, is := fault.Error(api.Fault{Kind: r.kind, At: at}).(*fault.Located)
			if !is || l == nil || *l != (fault.Located{At: at, Kind: r.kind}) {
				t.Fatalf("Error({%d, %d}): %v", r.kind, at, l)
			}
		}
	}
}

// P3.2: what is done to one is not seen at another of the same fault.
func TestErrorIsNew(t *testing.T) {
	for _, f := range []api.Fault{{Kind: 40, At: 12}, {Kind: 90, At: -3}, {Kind: -1}} {
		first, second := fault.Error(f), fault.Error(f)
		if first == second || errors.Is(first, second) {
			t.Errorf("one error twice: %v", first)
		}
		*first.(*fault.Located) = fault.Located{At: 1, Kind: 21}
		isFault(t, second, f)
		isFault(t, fault.Error(f), f)
		isFault(t, first, api.Fault{Kind: 21, At: 1})
	}
}

// P3.3: the texts, of those that Error answered and of those that were written out.
func TestLocatedError(t *testing.T) {
	for _, r := range rows() {
		for _, at := range edges() {
			l := &fault.Located{At: at, Kind: r.kind}
			if s := l.Error(); s != r.text(at) {
				t.Fatalf("%q, want %q", s, r.text(at))
			}
			if e := fault.Error(api.Fault{Kind: r.kind, At: at}); e != nil && e.Error() != r.text(at) {
				t.Fatalf("%q, want %q", e, r.text(at))
			}
		}
	}
}

// P3.3: the ends of an int, written out.
func TestLocatedErrorAtEnds(t *testing.T) {
	for l, want := range map[fault.Located]string{
		{At: math.MinInt, Kind: 40}:           "byte at -9223372036854775808",
		{At: math.MaxInt, Kind: 40}:           "byte at 9223372036854775807",
		{At: 0, Kind: math.MinInt}:            "error -9223372036854775808 at 0",
		{At: -1, Kind: math.MaxInt}:           "error 9223372036854775807 at -1",
		{At: math.MinInt, Kind: math.MinInt}:  "error -9223372036854775808 at -9223372036854775808",
		{At: 0, Kind: 0}:                      "ok at 0",
		{At: math.MinInt, Kind: 0}:            "ok at -9223372036854775808",
		{At: 10, Kind: 1}:                     "error 1 at 10",
		{At: 65536, Kind: api.ErrBreaksMany}:  "breaks at 65536",
		{At: 65536, Kind: -api.ErrBreaksMany}: "error -150 at 65536",
	} {
		if s := l.Error(); s != want {
			t.Errorf("%q, want %q", s, want)
		}
	}
}

// P3.3: the class itself, and nil where there is none.
func TestLocatedUnwrap(t *testing.T) {
	for _, r := range rows() {
		for _, at := range edges() {
			l := &fault.Located{At: at, Kind: r.kind}
			if c := l.Unwrap(); c != r.class {
				t.Fatalf("Unwrap of %v: %v, want %v", l, c, r.class)
			}
		}
	}
}

// P3.3: of what Error answered; of what wraps it, once, twice, and beside others.
func TestLocatedIs(t *testing.T) {
	for _, r := range rows() {
		l := &fault.Located{At: 5, Kind: r.kind}
		r.holds(t, l)
		r.holds(t, fmt.Errorf("a: %w", l))
		r.holds(t, fmt.Errorf("b: %w", fmt.Errorf("a: %w", l)))
		r.holds(t, errors.Join(errors.New("x"), fmt.Errorf("a: %w", l)))
		r.holds(t, fault.Error(api.Fault{Kind: r.kind, At: 5}))
	}
}

// P3.3: telling changes nothing, and a Located that was changed is told as it is now.
func TestLocatedAsItIs(t *testing.T) {
	l := &fault.Located{At: 5, Kind: 40}
	for range 2 {
		if l.Error() != "byte at 5" || l.Unwrap() != fault.ErrText || *l != (fault.Located{At: 5, Kind: 40}) {
			t.Error(l)
		}
		isFault(t, l, api.Fault{Kind: 40, At: 5})
	}
	l.At, l.Kind = -5, 72
	if l.Error() != "long at -5" || l.Unwrap() != fault.ErrLimit {
		t.Error(l)
	}
	isFault(t, l, api.Fault{Kind: 72, At: -5})
}

// P3.4: nothing, errors of others, and the classes, which are at no place.
func TestOfNone(t *testing.T) {
	isNone(t, "nil", nil)
	isNone(t, "another error", errors.New("x"))
	isNone(t, "what only reads like one", errors.New("byte at 12"))
	isNone(t, "others that are wrapped", fmt.Errorf("a: %w", fmt.Errorf("b: %w", errors.New("x"))))
	isNone(t, "others side by side", errors.Join(errors.New("x"), errors.New("y")))
	isNone(t, "one that is told, but not wrapped", errors.New(fault.Error(api.Fault{Kind: 40}).Error()))
	isNone(t, "an error whose nil is wrapped", fmt.Errorf("a: %w", fault.Error(api.Fault{At: 7})))
	for _, c := range classes() {
		isNone(t, c.Error(), c)
		isNone(t, c.Error()+" in another", fmt.Errorf("a: %w", c))
	}
}

// wrap has an error under as many others as that.
func wrap(e error, times int) error {
	for range times {
		e = fmt.Errorf("in: %w", e)
	}
	return e
}

// P3.4, P3.5: bare, and under others; one of Kind 0 is found, too.
func TestOf(t *testing.T) {
	for _, r := range rows() {
		for _, at := range edges() {
			f := api.Fault{Kind: r.kind, At: at}
			if e := fault.Error(f); e != nil {
				isFault(t, e, f)
				isFault(t, wrap(e, 3), f)
			}
			isFault(t, &fault.Located{At: at, Kind: r.kind}, f)
			isFault(t, wrap(&fault.Located{At: at, Kind: r.kind}, 1), f)
		}
	}
	isNone(t, "Error({0, 7})", fault.Error(api.Fault{At: 7}))
	isFault(t, wrap(fault.Error(api.Fault{Kind: 20, At: 9}), 1<<12), api.Fault{Kind: 20, At: 9})
}

// P3.4: the first one in the chain, the ones deep below ahead of those beside.
func TestOfFirst(t *testing.T) {
	a, b := fault.Error(api.Fault{Kind: 72, At: 5}), fault.Error(api.Fault{Kind: 40, At: 6})
	for _, e := range []error{
		errors.Join(a, b),
		errors.Join(errors.New("x"), a, b),
		errors.Join(errors.New("x"), wrap(a, 2), b),
		errors.Join(errors.Join(errors.New("x")), errors.Join(nil, wrap(a, 1)), b),
		fmt.Errorf("%w and %w", a, b),
		wrap(errors.Join(a, b), 2),
	} {
		isFault(t, e, api.Fault{Kind: 72, At: 5})
	}
	isFault(t, errors.Join(b, a), api.Fault{Kind: 40, At: 6})
	isFault(t, errors.Join(&fault.Located{At: 3}, a), api.Fault{At: 3})
}

// turned is an error that says of itself, where it is asked, that it is another.
type turned struct{ as error }

func (turned) Error() string { return "turned" }

func (e turned) As(target any) bool {
	p, is := target.(**fault.Located)
	if !is {
		return false
	}
	l, is := e.as.(*fault.Located)
	*p = l
	return is
}

// P3.4: as errors.As finds it, an error that is no Located may say what Located it is.
func TestOfTurned(t *testing.T) {
	isFault(t, turned{fault.Error(api.Fault{Kind: 61, At: 4})}, api.Fault{Kind: 61, At: 4})
	isFault(t, wrap(turned{&fault.Located{At: 4}}, 1), api.Fault{At: 4})
	isNone(t, "one that is turned into none", turned{errors.New("x")})
}

// liar leaves a Located behind, and says that it is none.
type liar struct{}

func (liar) Error() string { return "liar" }

func (liar) As(target any) bool {
	if p, is := target.(**fault.Located); is {
		*p = &fault.Located{At: 1, Kind: 20}
	}
	return false
}

// broken panics when it is asked what it wraps, and has been filled by then.
type broken struct{ liar }

func (broken) Unwrap() error { panic("broken") }

// P3.4, R1: errors that do as they should not.
func TestOfWrong(t *testing.T) {
	isNone(t, "one that says no", liar{})
	isNone(t, "one that panics", broken{})
	isNone(t, "one that panics, under others", wrap(broken{}, 2))
	isNone(t, "a nil error of another's type", (*fs.PathError)(nil))
	isNone(t, "a nil error of another's type, under others", wrap((*strconv.NumError)(nil), 1))
	isFault(t, errors.Join(fault.Error(api.Fault{Kind: 40, At: 2}), broken{}), api.Fault{Kind: 40, At: 2})
}

// P3.5: there and back; of six classes at most one, whatever the kind.
func TestOfError(t *testing.T) {
	for _, r := range rows() {
		for _, at := range edges() {
			e := fault.Error(api.Fault{Kind: r.kind, At: at})
			if r.kind == api.OK {
				isNone(t, "nothing", e)
				continue
			}
			of := 0
			for _, c := range classes() {
				if errors.Is(wrap(e, 2), c) {
					of++
				}
			}
			if of > 1 || (of == 1) != (r.class != nil) {
				t.Fatalf("%v: of %d classes", e, of)
			}
		}
	}
}

// The chapter's examples.
func TestExamples(t *testing.T) {
	for k, want := range map[api.Errno]string{20: "steps", 130: "items", 0: "ok", 1: "", -5: ""} {
		if n := fault.Name(k); n != want {
			t.Errorf("Name(%d): %q, want %q", k, n, want)
		}
	}
	if e := fault.Error(api.Fault{Kind: 0, At: 7}); e != nil {
		t.Errorf("Error({0, 7}): %v", e)
	}
	e := fault.Error(api.Fault{Kind: 40, At: 12})
	if e.Error() != "byte at 12" || !errors.Is(e, fault.ErrText) || errors.Is(e, fault.ErrSyntax) {
		t.Errorf("Error({40, 12}): %v", e)
	}
	e = fault.Error(api.Fault{Kind: 90, At: -3})
	if e.Error() != "error 90 at -3" || errors.Unwrap(e) != nil {
		t.Errorf("Error({90, -3}): %v", e)
	}
	isFault(t, fmt.Errorf("x: %w", fault.Error(api.Fault{Kind: 72, At: 5})), api.Fault{Kind: 72, At: 5})
	isNone(t, "errors.New", errors.New("x"))
	isNone(t, "nil", nil)
}
