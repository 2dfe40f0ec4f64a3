package fix_test

import (
	"math"
	"math/big"
	"testing"

	"platen/api"
	"platen/fix"
)

const maxPart = 1 << 20

// edges are numbers at and beyond what the chapter bounds, and those near the ends of an int.
func edges() []int {
	var l []int
	for _, n := range []int{0, 1 << 20, 1 << 31, 1 << 45, api.MaxDim, 1 << 61, 1 << 62, math.MaxInt, math.MinInt} {
		l = append(l, n-1, n, n+1, -n-1, -n, -n+1)
	}
	return append(l, 2, 3, 5, -5, 7, 10, -10, api.One, math.MaxInt/3, math.MinInt/3)
}

// numbers are of all magnitudes, the same ones each time.
type numbers struct{ state uint64 }

func (r *numbers) next() uint64 {
	r.state = r.state*6364136223846793005 + 1442695040888963407
	return r.state>>29 ^ r.state<<17
}

// upTo is a number from -1<<bits to 1<<bits, of any lesser magnitude as well.
func (r *numbers) upTo(bits uint64) int {
	n := int(r.next() >> (64 - bits) >> (r.next() % bits))
	if r.next()%2 == 0 {
		return -n - 1
	}
	return n + 1
}

// model is a Calc by numbers without an end.
type model struct{ wrong bool }

func isLength(n *big.Int) bool {
	return n.CmpAbs(big.NewInt(api.MaxDim)) <= 0
}

func (m *model) tell(exact *big.Int, lengths ...int) int {
	for _, a := range lengths {
		m.wrong = m.wrong || !isLength(big.NewInt(int64(a)))
	}
	m.wrong = m.wrong || !isLength(exact)
	if m.wrong {
		return 0
	}
	return int(exact.Int64())
}

func number(n int) *big.Int { return big.NewInt(int64(n)) }

func (m *model) add(a, b int) int {
	return m.tell(new(big.Int).Add(number(a), number(b)), a, b)
}

func (m *model) sub(a, b int) int {
	return m.tell(new(big.Int).Sub(number(a), number(b)), a, b)
}

func (m *model) neg(a int) int { return m.tell(new(big.Int).Neg(number(a)), a) }

func (m *model) times(a, n int) int {
	return m.tell(new(big.Int).Mul(number(a), number(n)), a)
}

func (m *model) scale(a, num, den int) int {
	if den < 1 || den > maxPart || num < -maxPart || num > maxPart {
		m.wrong = true
		return 0
	}
	p := new(big.Int).Mul(number(a), number(num))
	sign := p.Sign()
	twice := new(big.Int).Lsh(p.Abs(p), 1)
	n := new(big.Int).Div(twice.Add(twice, number(den)), number(2*den))
	return m.tell(n.Mul(n, number(sign)), a)
}

// calls are a Calc's calls, and the model's; each takes three numbers, and uses those that it needs.
func calls() []struct {
	name  string
	calc  func(c *fix.Calc, a, b, d int) int
	model func(m *model, a, b, d int) int
} {
	return []struct {
		name  string
		calc  func(c *fix.Calc, a, b, d int) int
		model func(m *model, a, b, d int) int
	}{
		{"Add", func(c *fix.Calc, a, b, _ int) int { return c.Add(a, b) }, func(m *model, a, b, _ int) int { return m.add(a, b) }},
		{"Sub", func(c *fix.Calc, a, b, _ int) int { return c.Sub(a, b) }, func(m *model, a, b, _ int) int { return m.sub(a, b) }},
		{"Neg", func(c *fix.Calc, a, _, _ int) int { return c.Neg(a) }, func(m *model, a, _, _ int) int { return m.neg(a) }},
		{"Times", func(c *fix.Calc, a, b, _ int) int { return c.Times(a, b) }, func(m *model, a, b, _ int) int { return m.times(a, b) }},
		{"Scale", func(c *fix.Calc, a, b, d int) int { return c.Scale(a, b, d) }, func(m *model, a, b, d int) int { return m.scale(a, b, d) }},
	}
}

// P1.1
func TestNewIsNotWrong(t *testing.T) {
	c := fix.New()
	if c.Wrong() {
		t.Error("wrong from the beginning")
	}
	c.Add(api.MaxDim, 1)
	d := fix.New()
	if !c.Wrong() || d.Wrong() || d.Add(2, 3) != 5 {
		t.Error("a new one knows of another")
	}
}

// P1.2: the chapter's examples, and what stands at its edges.
func TestCalls(t *testing.T) {
	for i, k := range []struct {
		ask   func(c *fix.Calc) int
		want  int
		wrong bool
	}{
		{func(c *fix.Calc) int { return c.Add(api.MaxDim, 0) }, api.MaxDim, false},
		{func(c *fix.Calc) int { return c.Add(api.MaxDim, 1) }, 0, true},
		{func(c *fix.Calc) int { return c.Add(-api.MaxDim, -1) }, 0, true},
		{func(c *fix.Calc) int { return c.Add(api.MaxDim+1, -1) }, 0, true},
		{func(c *fix.Calc) int { return c.Add(-1, api.MaxDim+1) }, 0, true},
		{func(c *fix.Calc) int { return c.Add(math.MaxInt, math.MinInt) }, 0, true},
		{func(c *fix.Calc) int { return c.Add(math.MinInt, math.MinInt) }, 0, true},
		{func(c *fix.Calc) int { return c.Sub(-api.MaxDim, -api.MaxDim) }, 0, false},
		{func(c *fix.Calc) int { return c.Sub(api.MaxDim, -1) }, 0, true},
		{func(c *fix.Calc) int { return c.Sub(math.MinInt, math.MinInt) }, 0, true},
		{func(c *fix.Calc) int { return c.Sub(0, api.MaxDim+1) }, 0, true},
		{func(c *fix.Calc) int { return c.Neg(api.MaxDim) }, -api.MaxDim, false},
		{func(c *fix.Calc) int { return c.Neg(-api.MaxDim) }, api.MaxDim, false},
		{func(c *fix.Calc) int { return c.Neg(-api.MaxDim - 1) }, 0, true},
		{func(c *fix.Calc) int { return c.Neg(math.MinInt) }, 0, true},
		{func(c *fix.Calc) int { return c.Times(1<<45, -2) }, -api.MaxDim, false},
		{func(c *fix.Calc) int { return c.Times(3, 1<<62) }, 0, true},
		{func(c *fix.Calc) int { return c.Times(4, 1<<62) }, 0, true},
		{func(c *fix.Calc) int { return c.Times(-2, math.MinInt) }, 0, true},
		{func(c *fix.Calc) int { return c.Times(0, math.MinInt) }, 0, false},
		{func(c *fix.Calc) int { return c.Times(api.MaxDim+1, 0) }, 0, true},
		{func(c *fix.Calc) int { return c.Scale(5, 1, 2) }, 3, false},
		{func(c *fix.Calc) int { return c.Scale(-5, 1, 2) }, -3, false},
		{func(c *fix.Calc) int { return c.Scale(5, 1, 3) }, 2, false},
		{func(c *fix.Calc) int { return c.Scale(7, -3, 2) }, -11, false},
		{func(c *fix.Calc) int { return c.Scale(api.MaxDim, maxPart, maxPart) }, api.MaxDim, false},
		{func(c *fix.Calc) int { return c.Scale(api.MaxDim, -maxPart, maxPart) }, -api.MaxDim, false},
		{func(c *fix.Calc) int { return c.Scale(api.MaxDim, 3, 2) }, 0, true},
		{func(c *fix.Calc) int { return c.Scale(1<<26, maxPart, 1) }, api.MaxDim, false},
		{func(c *fix.Calc) int { return c.Scale(1<<26+1, maxPart, 1) }, 0, true},
		{func(c *fix.Calc) int { return c.Scale(api.MaxDim, -maxPart, 1) }, 0, true},
		{func(c *fix.Calc) int { return c.Scale(api.MaxDim, maxPart, 4) }, 0, true},
		// The product is 2^64 less 16: rounding it brings it beyond 64 bits.
		{func(c *fix.Calc) int { return c.Scale(1<<44+1<<24+16, maxPart-1, maxPart) }, 1 << 44, false},
		{func(c *fix.Calc) int { return c.Scale(1<<44+1<<24+16, 1-maxPart, maxPart) }, -1 << 44, false},
		{func(c *fix.Calc) int { return c.Scale(1, 1, 0) }, 0, true},
		{func(c *fix.Calc) int { return c.Scale(1, 1, -1) }, 0, true},
		{func(c *fix.Calc) int { return c.Scale(1, maxPart+1, 1) }, 0, true},
		{func(c *fix.Calc) int { return c.Scale(1, -maxPart-1, 1) }, 0, true},
		{func(c *fix.Calc) int { return c.Scale(0, 0, maxPart+1) }, 0, true},
		{func(c *fix.Calc) int { return c.Scale(api.MaxDim+1, 0, 1) }, 0, true},
		{func(c *fix.Calc) int { return c.Scale(math.MinInt, 1, maxPart) }, 0, true},
		{func(c *fix.Calc) int { return c.Scale(1, math.MinInt, math.MinInt) }, 0, true},
	} {
		c := fix.New()
		if n := k.ask(c); n != k.want || c.Wrong() != k.wrong {
			t.Errorf("%d: %d, wrong %v", i, n, c.Wrong())
		}
	}
}

// P1.2, R1: each call by each of the edges, against numbers without an end.
func TestCallsAtEdges(t *testing.T) {
	for _, k := range calls() {
		thirds := []int{0}
		if k.name == "Scale" {
			thirds = edges()
		}
		for _, a := range edges() {
			for _, b := range edges() {
				for _, d := range thirds {
					c, m := fix.New(), &model{}
					n, want := k.calc(c, a, b, d), k.model(m, a, b, d)
					if n != want || c.Wrong() != m.wrong {
						t.Fatalf("%s(%d, %d, %d): %d, wrong %v; want %d, %v", k.name, a, b, d, n, c.Wrong(), want, m.wrong)
					}
				}
			}
		}
	}
}

// P1.2: rows of calls on one Calc, most of them ending with one that is wrong.
func TestCallsInRows(t *testing.T) {
	r := &numbers{1}
	for range 20000 {
		c, m := fix.New(), &model{}
		a := r.upTo(44)
		for range 12 {
			k := calls()[r.next()%5]
			b, d := r.upTo(47), r.upTo(20)
			switch k.name {
			case "Times":
				b = r.upTo(3)
			case "Scale":
				b = r.upTo(20)
				if d < 0 {
					d = -d
				}
			}
			n, want := k.calc(c, a, b, d), k.model(m, a, b, d)
			if n != want || c.Wrong() != m.wrong {
				t.Fatalf("%s(%d, %d, %d): %d, wrong %v; want %d, %v", k.name, a, b, d, n, c.Wrong(), want, m.wrong)
			}
			if a = n; a == 0 {
				a = r.upTo(30)
			}
		}
	}
}

// P1.2: whichever call was wrong, all that follow answer 0, and it stays wrong.
func TestStaysWrong(t *testing.T) {
	for _, spoil := range calls() {
		c := fix.New()
		if n := spoil.calc(c, math.MinInt, 1, 1); n != 0 || !c.Wrong() {
			t.Fatalf("%s: %d, wrong %v", spoil.name, n, c.Wrong())
		}
		for _, k := range calls() {
			if n := k.calc(c, 6, 2, 1); n != 0 || !c.Wrong() {
				t.Errorf("%s behind %s: %d, wrong %v", k.name, spoil.name, n, c.Wrong())
			}
		}
	}
}

// P1.3
func TestClone(t *testing.T) {
	c := fix.New()
	d := c.Clone()
	if c == d || d.Wrong() {
		t.Fatal("no clone of its own")
	}
	d.Neg(api.MaxDim + 1)
	if c.Wrong() || !d.Wrong() || c.Add(1, 1) != 2 {
		t.Error("what the clone was told is seen")
	}
	e := c.Clone()
	c.Neg(api.MaxDim + 1)
	if e.Wrong() || !c.Wrong() || e.Times(2, 3) != 6 {
		t.Error("what was told is seen at the clone")
	}
	if f := c.Clone(); !f.Wrong() || f.Add(1, 1) != 0 || !f.Wrong() {
		t.Error("the clone of a wrong one is not wrong")
	}
}

// share is Share by numbers without an end; Div floors, as its divisor is above 0.
func share(a, before, upTo, all int) int {
	if !isLength(number(a)) || before < 0 || before > upTo || upTo > all || all > api.MaxDim || all < 1 {
		return 0
	}
	at := func(n int) *big.Int {
		p := new(big.Int).Mul(number(a), number(n))
		return p.Div(p, number(all))
	}
	return int(new(big.Int).Sub(at(upTo), at(before)).Int64())
}

// P1.4: the chapter's examples, and what stands at its edges.
func TestShare(t *testing.T) {
	for _, k := range [][5]int{
		{10, 0, 1, 3, 3}, {10, 1, 2, 3, 3}, {10, 2, 3, 3, 4},
		{-10, 0, 1, 3, -4}, {-10, 1, 3, 3, -6},
		{10, 2, 1, 3, 0}, {10, 0, 0, 0, 0}, {10, 1, 1, 1, 0}, {0, 0, 1, 1, 0},
		{10, -1, 1, 3, 0}, {10, 0, 4, 3, 0}, {10, 0, 0, -1, 0}, {10, -2, -1, -1, 0},
		{api.MaxDim + 1, 0, 1, 1, 0}, {-api.MaxDim - 1, 0, 1, 1, 0}, {math.MinInt, 0, 1, 1, 0},
		{api.MaxDim, 0, api.MaxDim, api.MaxDim, api.MaxDim},
		{-api.MaxDim, 0, api.MaxDim, api.MaxDim, -api.MaxDim},
		{-api.MaxDim, 0, api.MaxDim - 1, api.MaxDim, -api.MaxDim + 1},
		{api.MaxDim, 0, 1, api.MaxDim + 1, 0}, {1, 0, api.MaxDim + 1, api.MaxDim + 1, 0},
		{-1, 0, 1, api.MaxDim, -1}, {-1, 1, api.MaxDim, api.MaxDim, 0},
	} {
		if n := fix.Share(k[0], k[1], k[2], k[3]); n != k[4] {
			t.Errorf("Share(%d, %d, %d, %d): %d, want %d", k[0], k[1], k[2], k[3], n, k[4])
		}
	}
}

// P1.4, R1: by each four of the edges that may be, and many that may not.
func TestShareAtEdges(t *testing.T) {
	weights := []int{math.MinInt, -1, 0, 1, 2, 3, 10, maxPart, 1 << 45, api.MaxDim - 1, api.MaxDim, api.MaxDim + 1, math.MaxInt}
	for _, a := range edges() {
		for _, before := range weights {
			for _, upTo := range weights {
				for _, all := range weights {
					n, want := fix.Share(a, before, upTo, all), share(a, before, upTo, all)
					if n != want {
						t.Fatalf("Share(%d, %d, %d, %d): %d, want %d", a, before, upTo, all, n, want)
					}
				}
			}
		}
	}
}

// P1.5: the parts are the whole; each is less than one away from what is due to it; no weight has no part.
func TestSharedOut(t *testing.T) {
	r := &numbers{2}
	for range 3000 {
		a := r.upTo(46)
		var weights []int
		all := 0
		for range r.next()%8 + 1 {
			w := r.upTo(43)
			if w < 0 {
				w = 0
			}
			weights = append(weights, w)
			all += w
		}
		if all == 0 {
			continue
		}
		before, sum := 0, 0
		for _, w := range weights {
			part := fix.Share(a, before, before+w, all)
			away := new(big.Int).Mul(number(part), number(all))
			away.Sub(away, new(big.Int).Mul(number(a), number(w)))
			if away.CmpAbs(number(all)) >= 0 || w == 0 && part != 0 {
				t.Fatalf("Share(%d, %d, %d, %d): %d", a, before, before+w, all, part)
			}
			before += w
			sum += part
		}
		if sum != a {
			t.Fatalf("%d by %v: %d in all", a, weights, sum)
		}
	}
}

// P1.6: Scale is near, the same on both sides of 0, and changes nothing by num that is den.
func TestScaleIsNear(t *testing.T) {
	r := &numbers{3}
	for range 20000 {
		a, num, den := r.upTo(46), r.upTo(20), r.upTo(20)
		if den < 0 {
			den = -den
		}
		c := fix.New()
		n := c.Scale(a, num, den)
		if !c.Wrong() {
			away := new(big.Int).Mul(number(n), number(den))
			away.Sub(away, new(big.Int).Mul(number(a), number(num)))
			if away.Lsh(away, 1).CmpAbs(number(den)) > 0 {
				t.Fatalf("Scale(%d, %d, %d): %d is not near", a, num, den, n)
			}
		}
		if d := fix.New(); d.Scale(-a, num, den) != -n || d.Wrong() != c.Wrong() {
			t.Fatalf("Scale(%d, %d, %d): not the other of %d", -a, num, den, n)
		}
		if d := fix.New(); d.Scale(a, -num, den) != -n || d.Wrong() != c.Wrong() {
			t.Fatalf("Scale(%d, %d, %d): not the other of %d", a, -num, den, n)
		}
		if d := fix.New(); d.Scale(a, den, den) != a || d.Wrong() {
			t.Fatalf("Scale(%d, %d, %d): not the same", a, den, den)
		}
	}
}
