package meter_test

import (
	"math"
	"testing"

	"platen/api"
	"platen/meter"
)

// call is one of a meter, and what it answers.
type call struct {
	ask  func(m *meter.Meter, n int) bool
	n    int
	want bool
}

func step(n int, want bool) call { return call{(*meter.Meter).Step, n, want} }

func hold(n int, want bool) call { return call{(*meter.Meter).Hold, n, want} }

func drop(n int, want bool) call { return call{(*meter.Meter).Drop, n, want} }

// reading is what a meter tells.
type reading struct {
	steps, held, peak int
	refused           api.Errno
}

func read(m *meter.Meter) reading {
	return reading{m.Steps(), m.Held(), m.Peak(), m.Refused()}
}

func open(t *testing.T, steps, cells int) *meter.Meter {
	t.Helper()
	m, e := meter.New(steps, cells)
	if m == nil || e != api.OK {
		t.Fatalf("New(%d, %d): %v, %d", steps, cells, m, e)
	}
	return m
}

// numbers are the same ones each time.
type numbers struct{ state uint64 }

func (r *numbers) below(n int) int {
	r.state = r.state*6364136223846793005 + 1442695040888963407
	return int(r.state>>33) % n
}

// edges are numbers near 0 and near the ends of an int.
func edges() []int {
	return []int{
		math.MinInt, math.MinInt + 1, -1 << 62, -1 << 32, -2, -1,
		0, 1, 2, 3, 5, 1 << 31, 1 << 32, 1<<62 - 1, 1 << 62, 1<<62 + 1, math.MaxInt - 1, math.MaxInt,
	}
}

// P2.1
func TestNew(t *testing.T) {
	for _, steps := range edges() {
		for _, cells := range edges() {
			m, e := meter.New(steps, cells)
			if steps < 0 || cells < 0 {
				if m != nil || e != api.ErrArg {
					t.Errorf("New(%d, %d): %v, %d", steps, cells, m, e)
				}
				continue
			}
			if m == nil || e != api.OK || read(m) != (reading{}) {
				t.Errorf("New(%d, %d): %v, %d", steps, cells, m, e)
			}
		}
	}
}

// P2.1, P2.5: each meter counts for itself.
func TestNewAlone(t *testing.T) {
	m, o := open(t, 2, 2), open(t, 2, 2)
	m.Hold(1)
	m.Step(3)
	if read(o) != (reading{}) || !o.Step(2) || !o.Hold(2) {
		t.Error("one meter's calls are seen at another")
	}
}

// row is calls of a meter of these budgets, and what it tells behind them.
type row struct {
	steps, cells int
	calls        []call
	want         reading
}

func (k row) check(t *testing.T, which int) {
	t.Helper()
	m := open(t, k.steps, k.cells)
	for i, c := range k.calls {
		if c.ask(m, c.n) != c.want {
			t.Errorf("row %d: call %d is not %v", which, i, c.want)
		}
	}
	if r := read(m); r != k.want {
		t.Errorf("row %d: %v, want %v", which, r, k.want)
	}
}

// P2.2 to P2.5: the chapter's examples.
func TestExamples(t *testing.T) {
	for i, k := range []row{
		{5, 3, []call{step(3, true), step(2, true), step(0, true), step(1, false)}, reading{5, 0, 0, api.ErrMeterSteps}},
		{5, 3, []call{step(7, false), step(0, false), hold(0, false), hold(1, false)}, reading{5, 0, 0, api.ErrMeterSteps}},
		{5, 3, []call{hold(2, true), drop(1, true), hold(2, true)}, reading{0, 3, 3, api.OK}},
		{5, 3, []call{hold(2, true), drop(1, true), hold(2, true), hold(1, false)}, reading{0, 3, 3, api.ErrMeterCells}},
		{5, 3, []call{hold(3, true), hold(1, false), drop(3, true), drop(1, false)}, reading{0, 0, 3, api.ErrMeterCells}},
		{5, 3, []call{step(-1, false), hold(-1, false), drop(1, false)}, reading{}},
	} {
		k.check(t, i)
	}
}

// P2.2 to P2.5: what stands at the edges of the examples.
func TestCalls(t *testing.T) {
	const most = math.MaxInt
	for i, k := range []row{
		// Of what is refused, those ahead of the first that is too many are counted.
		{5, 3, []call{step(2, true), step(4, false)}, reading{5, 0, 0, api.ErrMeterSteps}},
		{5, 3, []call{hold(7, false), hold(0, false), step(0, false), step(1, false)}, reading{0, 3, 3, api.ErrMeterCells}},
		{5, 3, []call{hold(3, true), drop(2, true), hold(3, false)}, reading{0, 3, 3, api.ErrMeterCells}},
		{5, 3, []call{hold(2, true), drop(2, true), hold(4, false)}, reading{0, 3, 3, api.ErrMeterCells}},

		// The last one that a budget has room for, and budgets of none.
		{5, 3, []call{step(5, true), hold(3, true), step(0, true), hold(0, true)}, reading{5, 3, 3, api.OK}},
		{0, 0, []call{step(0, true), hold(0, true), drop(0, true)}, reading{}},
		{0, 0, []call{step(1, false)}, reading{0, 0, 0, api.ErrMeterSteps}},
		{0, 0, []call{hold(1, false)}, reading{0, 0, 0, api.ErrMeterCells}},

		// Which budget was passed is told of the first one alone.
		{1, 1, []call{step(2, false), hold(2, false)}, reading{1, 0, 0, api.ErrMeterSteps}},
		{1, 1, []call{hold(2, false), step(2, false)}, reading{0, 1, 1, api.ErrMeterCells}},

		// Cells that were given back are there again, but not behind a refusal; the peak stays.
		{0, 3, []call{hold(3, true), drop(3, true), hold(2, true), drop(1, true)}, reading{0, 1, 3, api.OK}},
		{0, 3, []call{hold(1, true), drop(1, true), hold(1, true), hold(1, true)}, reading{0, 2, 2, api.OK}},
		{0, 3, []call{hold(4, false), drop(2, true), hold(1, false), drop(0, true), drop(1, true)}, reading{0, 0, 3, api.ErrMeterCells}},
		{1, 3, []call{hold(2, true), step(2, false), drop(3, false), drop(1, true)}, reading{1, 1, 2, api.ErrMeterSteps}},
		{5, 3, []call{hold(2, true), drop(3, false), drop(-1, false), drop(math.MinInt, false), drop(most, false)}, reading{0, 2, 2, api.OK}},

		// A number below 0 is no refusal, and none is undone by it.
		{5, 3, []call{step(3, true), step(-2, false), step(2, true), hold(2, true), hold(-1, false), hold(1, true)}, reading{5, 3, 3, api.OK}},
		{5, 3, []call{step(math.MinInt, false), hold(math.MinInt, false)}, reading{}},
		{5, 3, []call{step(6, false), step(-1, false), hold(-1, false), drop(-1, false)}, reading{5, 0, 0, api.ErrMeterSteps}},

		// Sums that an int has no room for.
		{most, most, []call{step(most, true), hold(most, true), step(0, true)}, reading{most, most, most, api.OK}},
		{most, most, []call{step(most, true), step(1, false)}, reading{most, 0, 0, api.ErrMeterSteps}},
		{most, most, []call{step(1, true), step(most, false)}, reading{most, 0, 0, api.ErrMeterSteps}},
		{most, most, []call{hold(1<<62, true), hold(1<<62, false)}, reading{0, most, most, api.ErrMeterCells}},
		{5, 3, []call{step(1, true), step(most, false)}, reading{5, 0, 0, api.ErrMeterSteps}},
		{5, 3, []call{hold(2, true), hold(most, false)}, reading{0, 3, 3, api.ErrMeterCells}},
		{most, most, []call{hold(most, true), drop(most, true), hold(most, true)}, reading{0, most, most, api.OK}},
	} {
		k.check(t, i)
	}
}

// model counts as the chapter tells it, one by one.
type model struct {
	maxSteps, maxCells int
	reading
}

func (m *model) step(n int) bool {
	if n < 0 || m.refused != api.OK {
		return false
	}
	for range n {
		if m.steps == m.maxSteps {
			m.refused = api.ErrMeterSteps
			return false
		}
		m.steps++
	}
	return true
}

func (m *model) hold(n int) bool {
	if n < 0 || m.refused != api.OK {
		return false
	}
	for range n {
		if m.held == m.maxCells {
			m.refused = api.ErrMeterCells
			return false
		}
		m.held++
		m.peak = max(m.peak, m.held)
	}
	return true
}

func (m *model) drop(n int) bool {
	if n < 0 || n > m.held {
		return false
	}
	m.held -= n
	return true
}

// P2.2 to P2.6: rows of calls, most of them going on behind a refusal.
func TestCallsInRows(t *testing.T) {
	r := &numbers{1}
	for range 20000 {
		m, o := open(t, 20, 12), &model{maxSteps: 20, maxCells: 12}
		for range 14 {
			n := r.below(8) - 1
			var got, want bool
			switch r.below(3) {
			case 0:
				got, want = m.Step(n), o.step(n)
			case 1:
				got, want = m.Hold(n), o.hold(n)
			case 2:
				got, want = m.Drop(n), o.drop(n)
			}
			if got != want || read(m) != o.reading {
				t.Fatalf("%v and %v, want %v and %v", got, read(m), want, o.reading)
			}
			if m.Steps() > 20 || m.Held() > m.Peak() || m.Peak() > 12 || m.Held() < 0 {
				t.Fatalf("beyond a budget: %v", read(m))
			}
		}
	}
}

// upTo is what is counted by two charges, and whether each was taken; unsigned, two ints have room.
func upTo(budget, a, b int) (sum int, first, second bool) {
	first = a >= 0 && a <= budget
	if a > budget {
		return budget, false, false
	}
	left := uint64(budget) - uint64(max(a, 0))
	second = b >= 0 && uint64(b) <= left
	if b >= 0 && !second {
		return budget, first, false
	}
	return max(a, 0) + max(b, 0), first, second
}

// P2.2, P2.3, P2.6, R1: each two of the edges, by each budget.
func TestCallsAtEdges(t *testing.T) {
	for _, budget := range edges() {
		if budget < 0 {
			continue
		}
		for _, a := range edges() {
			for _, b := range edges() {
				sum, first, second := upTo(budget, a, b)
				passed := a > budget || b >= 0 && !second
				m := open(t, budget, 0)
				want := reading{steps: sum}
				if passed {
					want.refused = api.ErrMeterSteps
				}
				if m.Step(a) != first || m.Step(b) != second || read(m) != want {
					t.Fatalf("New(%d, 0): Step(%d), Step(%d): %v, want %v", budget, a, b, read(m), want)
				}
				m = open(t, 0, budget)
				want = reading{held: sum, peak: sum}
				if passed {
					want.refused = api.ErrMeterCells
				}
				if m.Hold(a) != first || m.Hold(b) != second || read(m) != want {
					t.Fatalf("New(0, %d): Hold(%d), Hold(%d): %v, want %v", budget, a, b, read(m), want)
				}
			}
		}
	}
}

// P2.4, R1: each of the edges, of each number held.
func TestDropAtEdges(t *testing.T) {
	for _, held := range edges() {
		if held < 0 {
			continue
		}
		for _, n := range edges() {
			m := open(t, 0, math.MaxInt)
			m.Hold(held)
			may := 0 <= n && n <= held
			want := reading{held: held, peak: held}
			if may {
				want.held -= n
			}
			if m.Drop(n) != may || read(m) != want {
				t.Fatalf("Drop(%d) of %d: %v, want %v", n, held, read(m), want)
			}
		}
	}
}

// P2.5: telling changes nothing.
func TestTelling(t *testing.T) {
	m := open(t, 4, 4)
	m.Step(3)
	m.Hold(2)
	for range 2 {
		if r := read(m); r != (reading{3, 2, 2, api.OK}) {
			t.Errorf("%v", r)
		}
	}
	if !m.Step(1) || !m.Hold(2) || read(m) != (reading{4, 4, 4, api.OK}) {
		t.Error("what was told has been counted")
	}
}

// P2.5: the clone has the budgets, too; what is done to one of the two is not seen at the other.
func TestClone(t *testing.T) {
	m := open(t, 5, 3)
	m.Step(2)
	m.Hold(2)
	m.Drop(1)
	c := m.Clone()
	if c == m || read(c) != (reading{2, 1, 2, api.OK}) {
		t.Fatal("no clone of its own")
	}
	if !c.Step(3) || c.Step(1) || read(m) != (reading{2, 1, 2, api.OK}) {
		t.Error("what was done to the clone is seen, or its budget is another")
	}
	d := m.Clone()
	if m.Hold(3) || read(d) != (reading{2, 1, 2, api.OK}) || !d.Hold(2) || !d.Drop(3) {
		t.Error("what was done is seen at the clone")
	}
	if read(m) != (reading{2, 3, 3, api.ErrMeterCells}) {
		t.Error("what was done to the clone is seen")
	}
	e := m.Clone()
	if read(e) != read(m) || e.Step(0) || e.Hold(0) || !e.Drop(3) || m.Held() != 3 {
		t.Error("the clone of one that refused does not refuse")
	}
}

// P2.7: two charges, one behind the other, are one of both together.
func TestParts(t *testing.T) {
	for _, ask := range []func(m *meter.Meter, n int) bool{(*meter.Meter).Step, (*meter.Meter).Hold} {
		for ahead := range 10 {
			for a := range 10 {
				for b := range 10 {
					parts := open(t, 8, 8)
					ask(parts, ahead)
					whole := parts.Clone()
					first, second := ask(parts, a), ask(parts, b)
					both := ask(whole, a+b)
					if second != both || !first && second || read(parts) != read(whole) {
						t.Fatalf("%d behind %d, then %d: %v, together %v", a, ahead, b, read(parts), read(whole))
					}
				}
			}
		}
	}
}

// asked is one of the calls that are made of two meters in turn.
type asked struct{ which, n int }

func (a asked) of(m *meter.Meter) bool {
	switch a.which {
	case 0:
		return m.Step(a.n)
	case 1:
		return m.Hold(a.n)
	}
	return m.Drop(a.n)
}

// same goes through the calls by other budgets, up to the first refusal; all answers ahead of it must be those told.
func same(t *testing.T, calls []asked, told []bool, m *meter.Meter) {
	t.Helper()
	for i, a := range calls {
		got := a.of(m)
		if m.Refused() != api.OK {
			return
		}
		if got != told[i] {
			t.Fatalf("call %d of %v: %v", i, calls, got)
		}
	}
}

// P2.8: what was counted is just what is needed.
func TestTight(t *testing.T) {
	r := &numbers{2}
	for range 2000 {
		var calls []asked
		var told []bool
		m := open(t, math.MaxInt, math.MaxInt)
		for range 10 {
			a := asked{r.below(3), r.below(6) - 1}
			calls = append(calls, a)
			told = append(told, a.of(m))
		}
		for more := range 3 {
			for _, b := range []*meter.Meter{open(t, m.Steps()+more, m.Peak()), open(t, m.Steps(), m.Peak()+more)} {
				same(t, calls, told, b)
				if read(b) != read(m) {
					t.Fatalf("%v: %v, want %v", calls, read(b), read(m))
				}
			}
		}
		for less := range m.Steps() {
			b := open(t, less, m.Peak())
			same(t, calls, told, b)
			if b.Refused() != api.ErrMeterSteps || b.Steps() != less {
				t.Fatalf("%v by %d steps: %v", calls, less, read(b))
			}
		}
		for less := range m.Peak() {
			b := open(t, m.Steps(), less)
			same(t, calls, told, b)
			if b.Refused() != api.ErrMeterCells || b.Peak() != less {
				t.Fatalf("%v by %d cells: %v", calls, less, read(b))
			}
		}
	}
}
