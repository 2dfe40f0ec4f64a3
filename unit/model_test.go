package unit_test

import (
	"math/big"
	"regexp"
	"strings"

	"platen/api"
)

// The model knows the chapter's form as an expression, and reckons with fractions that have no end.

var (
	someLength = regexp.MustCompile(`\A([0-9]{1,15}(?:\.[0-9]{1,4})?)(pt|mm|in|em|sp)?\z`)
	someNumber = regexp.MustCompile(`\A[0-9]{1,9}\z`)
)

// names are the units, as they are written.
func names() []string { return []string{"", "pt", "in", "mm", "sp", "em"} }

func worth(name string, size int) *big.Rat {
	switch name {
	case "in":
		return big.NewRat(72*65536, 1)
	case "mm":
		return big.NewRat(360*65536, 127)
	case "sp":
		return big.NewRat(1, 1)
	case "em":
		return big.NewRat(int64(size), 1)
	}
	return big.NewRat(65536, 1)
}

func read(s string, size int) (int, api.Errno) {
	m := someLength.FindStringSubmatch(s)
	if m == nil {
		return 0, 80
	}
	if m[2] == "em" && (size < 0 || size > 1<<46) {
		return 0, 81
	}
	exact := ratio(m[1])
	exact.Mul(exact, worth(m[2], size))
	if exact.Cmp(big.NewRat(1<<46, 1)) > 0 {
		return 0, 81
	}
	return int(floor(exact.Add(exact, big.NewRat(1, 2))).Int64()), 0
}

func ratio(number string) *big.Rat {
	x, ok := new(big.Rat).SetString(number)
	if !ok {
		panic(number)
	}
	return x
}

// floor is the greatest whole number not above x, which is not below 0.
func floor(x *big.Rat) *big.Int { return new(big.Int).Div(x.Num(), x.Denom()) }

func number(s string) (int, api.Errno) {
	if !someNumber.MatchString(s) {
		return 0, 80
	}
	n, _ := new(big.Int).SetString(s, 10)
	return int(n.Int64()), 0
}

// decimals is the greatest number with so many digits behind its point that is not above x; its least place counts one part.
type decimals struct {
	n     *big.Int
	parts int
}

func below(x *big.Rat, places int) decimals {
	d := decimals{parts: places}
	d.n = floor(new(big.Rat).Mul(x, new(big.Rat).SetInt(d.one())))
	return d
}

func (d decimals) one() *big.Int {
	return new(big.Int).Exp(big.NewInt(10), big.NewInt(int64(d.parts)), nil)
}

func (d decimals) plus(n int) decimals {
	return decimals{new(big.Int).Add(d.n, big.NewInt(int64(n))), d.parts}
}

// String is the number as a text has it; of one below 0 that of 0.
func (d decimals) String() string {
	n := d.n
	if n.Sign() < 0 {
		n = new(big.Int)
	}
	whole, part := new(big.Int).DivMod(n, d.one(), new(big.Int))
	if d.parts == 0 {
		return whole.String()
	}
	digits := part.String()
	return whole.String() + "." + strings.Repeat("0", d.parts-len(digits)) + digits
}

// numbers are the same ones each time.
type numbers struct{ state uint64 }

func (r *numbers) next() uint64 {
	r.state = r.state*6364136223846793005 + 1442695040888963407
	return r.state>>29 ^ r.state<<17
}

func (r *numbers) below(n int) int { return int(r.next() % uint64(n)) }

// length is a length, of any magnitude.
func (r *numbers) length() int { return int(r.next() & (1<<46 - 1) >> r.below(47)) }

func (r *numbers) digits(n int) string {
	var b strings.Builder
	for range n {
		b.WriteByte('0' + byte(r.below(10)))
	}
	return b.String()
}

// decimal is the number of a length's text.
func (r *numbers) decimal() string {
	s := r.digits(1 + r.below(15))
	if n := r.below(5); n > 0 {
		s += "." + r.digits(n)
	}
	return s
}

func (r *numbers) name() string { return names()[r.below(6)] }
