package unit_test

import (
	"math"
	"math/big"
	"slices"
	"strconv"
	"strings"
	"testing"

	"platen/api"
	"platen/unit"
)

// reads holds Read against the model.
func reads(t *testing.T, s string, size int) (int, api.Errno) {
	t.Helper()
	want, wanted := read(s, size)
	n, e := unit.Read(s, size)
	if n != want || e != wanted {
		t.Errorf("Read(%.60q, %d): %d, %d; want %d, %d", s, size, n, e, want, wanted)
	}
	return n, e
}

func counts(t *testing.T, s string) api.Errno {
	t.Helper()
	want, wanted := number(s)
	n, e := unit.Number(s)
	if n != want || e != wanted {
		t.Errorf("Number(%.60q): %d, %d; want %d, %d", s, n, e, want, wanted)
	}
	return e
}

// sizes are some at and beyond what a size for em may be, and the ends of an int.
func sizes() []int {
	var l []int
	for _, n := range []int{0, 1 << 16, 1 << 31, 1 << 32, 1 << 45, 1 << 46, 1 << 62, math.MaxInt, math.MinInt} {
		l = append(l, n-1, n, n+1, -n)
	}
	return append(l, 2, 3, 7, 9, 10, 4999, 5000, 9999, 10000, 10001, 12*65536, 1<<46/3, 70368744177663)
}

// Each of the chapter's examples, and what stands at their sides.
func TestReadExamples(t *testing.T) {
	for _, x := range []struct {
		s    string
		size int
		want int
		e    api.Errno
	}{
		{"10", 0, 655360, 0}, {"0.5pt", 0, 32768, 0}, {"1in", 0, 4718592, 0}, {"1mm", 0, 185771, 0}, {"1.5em", 7, 11, 0},
		{"0.0001", 0, 7, 0}, {"3sp", 0, 3, 0}, {"0.5sp", 0, 1, 0}, {"007", 0, 458752, 0},
		{"", 0, 0, 80}, {".5", 0, 0, 80}, {"5.", 0, 0, 80}, {"5.12345", 0, 0, 80}, {"-1", 0, 0, 80}, {"1 pt", 0, 0, 80}, {"1px", 0, 0, 80}, {"1234567890123456", 0, 0, 80},
		{"1em", -1, 0, 81}, {"1073741824", 0, 1 << 46, 0}, {"1073741825", 0, 0, 81}, {"1073741824.0001", 0, 0, 81},

		{"10pt", 0, 655360, 0}, {"0", 0, 0, 0}, {"0.0000mm", 0, 0, 0}, {"25.4mm", 0, 4718592, 0}, {"127mm", 0, 23592960, 0},
		{"0.4999sp", 0, 0, 0}, {"0.5001sp", 0, 1, 0}, {"1.5sp", 0, 2, 0}, {"2.5sp", 0, 3, 0}, {"1.5em", 5, 8, 0}, {"1.4999em", 5, 7, 0},
		{"123456789012345", 0, 0, 81}, {"000000000000001.5000pt", 0, 98304, 0}, {"0000000000000001", 0, 0, 80}, {"999999999999999.9999", 0, 0, 81}, {"999999999999999.9999em", 0, 0, 0},

		// A text that is none is told ahead of a size that is none; the size is asked of em alone, and of any number of them.
		{"1e", -1, 0, 80}, {".em", -1, 0, 80}, {"em", -1, 0, 80}, {"0em", -1, 0, 81}, {"0.0em", 1<<46 + 1, 0, 81}, {"1em", 1 << 46, 1 << 46, 0}, {"1pt", -1, 65536, 0}, {"1", math.MinInt, 65536, 0}, {"1sp", math.MaxInt, 1, 0},
	} {
		if n, e := unit.Read(x.s, x.size); n != x.want || e != x.e {
			t.Errorf("Read(%q, %d): %d, %d; want %d, %d", x.s, x.size, n, e, x.want, x.e)
		}
		reads(t, x.s, x.size)
	}
}

// P8.1: each number of digits on both sides of the point, before each unit and before what is none.
func TestReadDigits(t *testing.T) {
	behind := append(names(), "p", "PT", "Pt", "ptx", "pt ", " pt", "px", "cm", "ex", "ptpt", "spin", "mmm", "m", "i", "n", "t", "1", ".", ".pt", "\x00", "pt\x00", "\xFF", "\xC3", "ｐt", "%")
	right := map[api.Errno]int{}
	for whole := range 18 {
		for part := range 7 {
			for _, digit := range "0159" {
				s := strings.Repeat(string(digit), whole) + "." + strings.Repeat(string(digit), part)
				for _, b := range behind {
					for _, size := range []int{0, 1, 655360, -1, 1<<46 + 1} {
						_, e := reads(t, s+b, size)
						right[e]++
						reads(t, strings.TrimSuffix(s, ".")+b, size)
						reads(t, strings.Replace(s, ".", "", 1)+b, size)
						reads(t, strings.Replace(s, ".", ",", 1)+b, size)
						reads(t, strings.Replace(s, ".", "..", 1)+b, size)
					}
				}
			}
		}
	}
	for _, e := range []api.Errno{0, 80, 81} {
		if right[e] < 1000 {
			t.Errorf("%d came %d times only", e, right[e])
		}
	}
}

// P8.1, P8.3: all short texts of the signs that mean something, and some that look like them.
func TestShort(t *testing.T) {
	signs := []string{"0", "1", "9", ".", "p", "t", "m", "i", "n", "e", "s", " ", "-", "+", "_", "P", "/", ":", "٣", "\xFF"}
	var grow func(s string, n int)
	grow = func(s string, n int) {
		reads(t, s, 3)
		reads(t, s, -3)
		counts(t, s)
		for _, x := range signs {
			if n > 0 && !t.Failed() {
				grow(s+x, n-1)
			}
		}
	}
	grow("", 4)
	grow("1.5", 3)
}

// P8.1, P8.3: at each place of a text each byte, put in or put over what stands there.
func TestBytes(t *testing.T) {
	for _, s := range []string{"1", "10", "12.5", "3.25mm", "123456789012345.6789em", "0.0001sp", "7in", "8pt", "123456789"} {
		for at := range len(s) + 1 {
			for b := range 256 {
				x := string([]byte{byte(b)})
				l := []string{s[:at] + x + s[at:]}
				if at < len(s) {
					l = append(l, s[:at]+x+s[at+1:], s[:at]+s[at+1:])
				}
				for _, s := range l {
					reads(t, s, 1)
					counts(t, s)
				}
			}
		}
	}
}

// P8.1: where a length ends: the greatest number that is one, and those beside it, with each number of places, in each unit, of each size.
func TestReadRange(t *testing.T) {
	most := big.NewRat(api.MaxDim, 1)
	kinds := map[api.Errno]int{}
	for _, name := range names() {
		for _, size := range sizes() {
			each := worth(name, size)
			if each.Sign() <= 0 {
				each = big.NewRat(1, 1)
			}
			for places := range 5 {
				d := below(new(big.Rat).Quo(most, each), places)
				for n := -3; n <= 3; n++ {
					_, e := reads(t, d.plus(n).String()+name, size)
					kinds[e]++
				}
			}
		}
	}
	if kinds[0] < 1000 || kinds[81] < 1000 {
		t.Errorf("came: %v", kinds)
	}
	for _, s := range []string{"70368744177664.0001sp", "70368744177664.4999sp", "70368744177664.5sp", "70368744177664.0001em", "70368744177664.4999em"} {
		if n, e := unit.Read(s, 1); n != 0 || e != api.ErrUnitRange {
			t.Errorf("Read(%q, 1): %d, %d: exactly it is above MaxDim", s, n, e)
		}
	}
	for _, s := range []string{"70368744177664sp", "70368744177664.0000sp", "70368744177663.5sp", "70368744177663.9999em"} {
		if n, e := unit.Read(s, 1); n != api.MaxDim || e != api.OK {
			t.Errorf("Read(%q, 1): %d, %d", s, n, e)
		}
	}
}

// P8.1: rounding: numbers beside each half, of units whose halves can be written, and beside the places of all others that are nearest to one.
func TestReadNearest(t *testing.T) {
	r := &numbers{state: 81}
	half := big.NewRat(1, 2)
	for range 3000 {
		for _, name := range names() {
			size := 1 + r.length()
			each := worth(name, size)
			x := new(big.Rat).Add(big.NewRat(int64(r.length()), 1), half)
			x.Quo(x, each)
			for places := range 5 {
				d := below(x, places)
				for n := -1; n <= 2; n++ {
					reads(t, d.plus(n).String()+name, size)
				}
			}
		}
	}
	for n := range 2000 {
		s := strconv.Itoa(n)
		for _, x := range []struct {
			s    string
			size int
			want int
		}{{s + ".5sp", 0, n + 1}, {s + ".4999sp", 0, n}, {"0.5em", n, (n + 1) / 2}, {s + ".5em", 3, 3*n + 2}, {"0.0001em", 10000*n + 5000, n + 1}, {"0.0001em", 10000*n + 4999, n}} {
			if got, e := unit.Read(x.s, x.size); got != x.want || e != api.OK {
				t.Errorf("Read(%q, %d): %d, %d; want %d", x.s, x.size, got, e, x.want)
			}
		}
	}
}

// P8.1: any length's texts, of any size.
func TestReadAny(t *testing.T) {
	r := &numbers{state: 82}
	kinds := map[api.Errno]int{}
	for range 200000 {
		size := r.length()
		if r.below(8) == 0 {
			size = sizes()[r.below(len(sizes()))]
		}
		_, e := reads(t, r.decimal()+r.name(), size)
		kinds[e]++
	}
	if kinds[0] < 20000 || kinds[81] < 20000 || kinds[80] > 0 {
		t.Errorf("came: %v", kinds)
	}
}

// R1: texts of any length.
func TestLong(t *testing.T) {
	for _, x := range []string{"1", "0", ".", "p", "\xFF", "1.", "em", " ", "\x00"} {
		s := strings.Repeat(x, 1<<20)
		for _, s := range []string{s, "1" + s, "1." + s, "0.5" + s, s + "pt", "1pt" + s} {
			if n, e := unit.Read(s, 5); n != 0 || e != api.ErrUnitForm {
				t.Errorf("Read(%.10q..): %d, %d", s, n, e)
			}
			if n, e := unit.Number(s); n != 0 || e != api.ErrUnitForm {
				t.Errorf("Number(%.10q..): %d, %d", s, n, e)
			}
		}
	}
}

// P8.2: what is no length that can be written; and whole points, and all others, by their digits.
func TestPrint(t *testing.T) {
	for d, want := range map[int]string{
		655360: "10", 655361: "655361sp", 0: "0", 1: "1sp", 65535: "65535sp", 65536: "1", 65537: "65537sp", 32768: "32768sp", 10 * 65536 * 10: "100",
		1 << 46: "1073741824", 1<<46 - 1: "70368744177663sp", 1<<46 - 65536: "1073741823",
	} {
		if s, e := unit.Print(d); s != want || e != api.OK {
			t.Errorf("Print(%d): %q, %d; want %q", d, s, e, want)
		}
	}
	for _, d := range []int{-1, -65536, -65537, 1<<46 + 1, 1<<46 + 65536, -1 << 46, math.MaxInt, math.MinInt, math.MinInt + 1} {
		if s, e := unit.Print(d); s != "" || e != api.ErrArg {
			t.Errorf("Print(%d): %q, %d", d, s, e)
		}
	}
}

// lengths are some that can be written: beside all powers of two, beside whole points, and any.
func lengths() []int {
	var l []int
	for bit := range 47 {
		for _, n := range []int{1<<bit - 1, 1 << bit, 1<<bit + 1} {
			l = append(l, min(n, api.MaxDim))
		}
	}
	r := &numbers{state: 83}
	for range 50000 {
		n := r.length()
		l = append(l, n, n/api.One*api.One)
	}
	for n := range 5000 {
		l = append(l, n, n*api.One, n*api.One+1, n*api.One+api.One-1)
	}
	return l
}

// P8.2, P8.4: the one text of a length, read again as it, whatever the size is.
func TestThereAndBack(t *testing.T) {
	all := sizes()
	for n, d := range lengths() {
		s, e := unit.Print(d)
		want := strconv.Itoa(d) + "sp"
		if whole := d / 65536; whole*65536 == d {
			want = strconv.Itoa(whole)
		}
		if s != want || e != api.OK {
			t.Fatalf("Print(%d): %q, %d; want %q", d, s, e, want)
		}
		for _, size := range []int{0, all[n%len(all)]} {
			if back, e := unit.Read(s, size); back != d || e != api.OK {
				t.Fatalf("Read(%q, %d): %d, %d; want %d", s, size, back, e, d)
			}
		}
	}
}

// P8.5: in one unit a greater number is not a lesser length; one that is too great is so for all greater ones.
func TestRising(t *testing.T) {
	r := &numbers{state: 84}
	for _, name := range names() {
		for range 200 {
			size := r.length()
			var l []string
			for range 60 {
				l = append(l, r.decimal())
			}
			for d := range 20 {
				l = append(l, below(ratio(l[d]), 4).plus(1).String(), below(ratio(l[d]), 4).plus(-1).String())
			}
			l = slices.DeleteFunc(l, func(s string) bool { return len(strings.Split(s, ".")[0]) > 15 })
			slices.SortFunc(l, func(a, b string) int { return ratio(a).Cmp(ratio(b)) })
			last, over := 0, false
			for _, s := range l {
				n, e := unit.Read(s+name, size)
				over = over || e == api.ErrUnitRange
				if over != (e == api.ErrUnitRange) || !over && (n < last || e != api.OK) {
					t.Fatalf("Read(%q, %d): %d, %d behind %d", s+name, size, n, e, last)
				}
				last = n
			}
		}
	}
}

// P8.5: n ems are n sizes; n inches n times one.
func TestTimes(t *testing.T) {
	r := &numbers{state: 85}
	for k := range 20000 {
		size, n := r.length(), r.below(1<<r.below(32)+1)
		if k < 1000 {
			size, n = k%32, k/32
		}
		if want := n * size; size <= api.MaxDim/max(n, 1) {
			if got, e := unit.Read(strconv.Itoa(n)+"em", size); got != want || e != api.OK {
				t.Fatalf("Read(%dem, %d): %d, %d", n, size, got, e)
			}
		}
		one, _ := unit.Read("1in", size)
		n %= api.MaxDim/one + 1
		if got, e := unit.Read(strconv.Itoa(n)+"in", size); got != n*one || e != api.OK {
			t.Fatalf("Read(%din): %d, %d", n, got, e)
		}
	}
}

// P8.3: the chapter's examples; each number of digits; any of them, with noughts ahead.
func TestNumber(t *testing.T) {
	for s, want := range map[string]int{"200": 200, "000": 0, "0": 0, "9": 9, "10000": 10000, "999999999": 999999999, "000000001": 1, "100000000": 100000000} {
		if n, e := unit.Number(s); n != want || e != api.OK {
			t.Errorf("Number(%q): %d, %d; want %d", s, n, e, want)
		}
	}
	for _, s := range []string{"", "1234567890", "0000000001", "+1", "-1", "1.0", "1.", ".1", " 1", "1 ", "1pt", "1sp", "x", "0x1", "1e3", "1_0", "٣", "３", "1\x00", "\x001", "\xFF", "1\xFF", "18446744073709551617", "/", ":"} {
		if n, e := unit.Number(s); n != 0 || e != api.ErrUnitForm {
			t.Errorf("Number(%q): %d, %d", s, n, e)
		}
	}
	r := &numbers{state: 86}
	for k := range 50000 {
		if e := counts(t, r.digits(1+k%11)); (e == api.OK) != (k%11 < 9) {
			t.Fatalf("%d digits: %d", 1+k%11, e)
		}
	}
}

// R5: no call hangs on an earlier one.
func TestAlone(t *testing.T) {
	for _, size := range []int{3, 7, -1, 0, 3} {
		reads(t, "2.5em", size)
		reads(t, "2.5", size)
		reads(t, "2.5xx", size)
	}
}
