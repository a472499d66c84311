package fx

import (
	"math"
	"math/big"
	"strings"
	"testing"

	"gimbal/api"
)

const (
	one  = int64(api.One)
	most = int64(api.Most)
)

// answer is what a call tells: a number, whether anything was cut, an error.
type answer struct {
	n       int64
	changed bool
	e       api.Errno
}

// numbers are int64s, from the least to the greatest: those about which fixed numbers begin and end, about which
// products, quotients and roots are cut or rounded, and some between.
func numbers() []int64 {
	var up []int64
	for _, n := range []int64{
		0, 3, 7, 1000, 1024, 46340, one / 2, one, 3 * one, 10 * one, 47453132,
		2047 * one, most - one, most, 1 << 32, 1 << 40, 1 << 52, 3037000499, 1 << 62,
	} {
		up = append(up, n-1, n, n+1)
	}
	seed := uint64(88172645463325252)
	for n := range 24 {
		seed ^= seed << 13
		seed ^= seed >> 7
		seed ^= seed << 17
		up = append(up, int64(seed>>(30+n)))
	}
	up = append(up, math.MaxInt64-1, math.MaxInt64)
	var out []int64
	for _, n := range up {
		out = append(out, n, -n)
	}
	return append(out, math.MinInt64)
}

// limited is what is promised of a whole number that comes of a call, or goes into one.
func limited(n *big.Int) (*big.Int, bool) {
	top := big.NewInt(most)
	low := big.NewInt(-most)
	switch {
	case n.Cmp(top) > 0:
		return top, true
	case n.Cmp(low) < 0:
		return low, true
	}
	return n, false
}

// down is the greatest whole number not above a / b.
func down(a, b *big.Int) *big.Int {
	if b.Sign() < 0 {
		a, b = new(big.Int).Neg(a), new(big.Int).Neg(b)
	}
	return new(big.Int).Div(a, b) // above 0, b leaves a rest from 0 on
}

// promised is what a call of two numbers should tell, by what is exact of them.
func promised(a, b int64, exact func(a, b *big.Int) *big.Int) answer {
	x, first := limited(big.NewInt(a))
	y, second := limited(big.NewInt(b))
	n, third := limited(exact(x, y))
	return answer{n.Int64(), first || second || third, api.OK}
}

func wantAnswer(t *testing.T, what string, a, b int64, got, want answer) {
	t.Helper()
	if got != want {
		t.Errorf("%s(%d, %d): %v, not %v", what, a, b, got, want)
	}
}

// B1: n, cut, and whether it was changed.
func TestClamp(t *testing.T) {
	for _, n := range numbers() {
		m, changed := Clamp(n)
		want, cut := limited(big.NewInt(n))
		wantAnswer(t, "Clamp", n, 0, answer{m, changed, api.OK}, answer{want.Int64(), cut, api.OK})
	}
	for n, want := range map[int64]answer{
		most: {most, false, api.OK}, most + 1: {most, true, api.OK},
		-most: {-most, false, api.OK}, -most - 1: {-most, true, api.OK},
		math.MaxInt64: {most, true, api.OK}, math.MinInt64: {-most, true, api.OK},
	} {
		m, changed := Clamp(n)
		wantAnswer(t, "Clamp", n, 0, answer{m, changed, api.OK}, want)
	}
}

// B1: sums, differences, products and quotients of all pairs are what is exact, rounded down and cut.
func TestReckonsAsTheExactNumbers(t *testing.T) {
	step := big.NewInt(one)
	for _, a := range numbers() {
		for _, b := range numbers() {
			n, changed := Add(a, b)
			wantAnswer(t, "Add", a, b, answer{n, changed, api.OK}, promised(a, b, func(a, b *big.Int) *big.Int {
				return new(big.Int).Add(a, b)
			}))
			n, changed = Sub(a, b)
			wantAnswer(t, "Sub", a, b, answer{n, changed, api.OK}, promised(a, b, func(a, b *big.Int) *big.Int {
				return new(big.Int).Sub(a, b)
			}))
			n, changed = Mul(a, b)
			wantAnswer(t, "Mul", a, b, answer{n, changed, api.OK}, promised(a, b, func(a, b *big.Int) *big.Int {
				return down(new(big.Int).Mul(a, b), step)
			}))
			n, changed, e := Div(a, b)
			want := answer{0, false, api.ErrZero}
			if b != 0 {
				want = promised(a, b, func(a, b *big.Int) *big.Int {
					return down(new(big.Int).Mul(a, step), b)
				})
			}
			wantAnswer(t, "Div", a, b, answer{n, changed, e}, want)
		}
	}
}

// B1: the document's examples, and sums and quotients at which just one of three is cut.
func TestReckonsAtTheEdges(t *testing.T) {
	add := func(a, b int64) answer { n, changed := Add(a, b); return answer{n, changed, api.OK} }
	sub := func(a, b int64) answer { n, changed := Sub(a, b); return answer{n, changed, api.OK} }
	mul := func(a, b int64) answer { n, changed := Mul(a, b); return answer{n, changed, api.OK} }
	div := func(a, b int64) answer { n, changed, e := Div(a, b); return answer{n, changed, e} }
	for _, x := range []struct {
		what string
		call func(a, b int64) answer
		a, b int64
		want answer
	}{
		{"Mul", mul, one, 3, answer{3, false, api.OK}},
		{"Mul", mul, -1, 1, answer{-1, false, api.OK}},
		{"Mul", mul, -1, 0, answer{0, false, api.OK}},
		{"Mul", mul, -1, one, answer{-1, false, api.OK}},
		{"Mul", mul, most, most, answer{most, true, api.OK}},
		{"Mul", mul, most, -most, answer{-most, true, api.OK}},
		{"Mul", mul, 1 << 40, 0, answer{0, true, api.OK}},
		{"Mul", mul, 0, math.MinInt64, answer{0, true, api.OK}},
		{"Div", div, one, 3 * one, answer{349525, false, api.OK}},
		{"Div", div, -1, 2 * one, answer{-1, false, api.OK}},
		{"Div", div, 1, -2 * one, answer{-1, false, api.OK}},
		{"Div", div, -1, -2 * one, answer{0, false, api.OK}},
		{"Div", div, -6, 2 * one, answer{-3, false, api.OK}},
		{"Div", div, 5, 0, answer{0, false, api.ErrZero}},
		{"Div", div, 0, 0, answer{0, false, api.ErrZero}},
		{"Div", div, math.MinInt64, 0, answer{0, false, api.ErrZero}},
		{"Div", div, math.MinInt64, -1, answer{most, true, api.OK}},
		{"Div", div, one, 1 << 40, answer{512, true, api.OK}},
		{"Div", div, 2047, 1, answer{2047 * one, false, api.OK}},
		{"Div", div, 2048, 1, answer{most, true, api.OK}},
		{"Div", div, 2048, -1, answer{-most, true, api.OK}},
		{"Add", add, most, 1, answer{most, true, api.OK}},
		{"Add", add, most - 1, 1, answer{most, false, api.OK}},
		{"Add", add, -most, -1, answer{-most, true, api.OK}},
		{"Add", add, most + 1, -1, answer{most - 1, true, api.OK}},
		{"Add", add, -1, most + 1, answer{most - 1, true, api.OK}},
		{"Add", add, math.MaxInt64, math.MaxInt64, answer{most, true, api.OK}},
		{"Sub", sub, -most, 1, answer{-most, true, api.OK}},
		{"Sub", sub, -most, -1, answer{1 - most, false, api.OK}},
		{"Sub", sub, 0, -most, answer{most, false, api.OK}},
		{"Sub", sub, 0, math.MinInt64, answer{most, true, api.OK}},
		{"Sub", sub, math.MinInt64, math.MinInt64, answer{0, true, api.OK}},
	} {
		wantAnswer(t, x.what, x.a, x.b, x.call(x.a, x.b), x.want)
	}
}

// B1: the greatest whole number whose square is not above a One.
func TestSqrt(t *testing.T) {
	for _, a := range numbers() {
		n, changed, e := Sqrt(a)
		want := answer{0, false, api.ErrBelow}
		if a >= 0 {
			want = promised(a, 0, func(a, _ *big.Int) *big.Int {
				return new(big.Int).Sqrt(new(big.Int).Mul(a, big.NewInt(one)))
			})
		}
		wantAnswer(t, "Sqrt", a, 0, answer{n, changed, e}, want)
	}
	for a, want := range map[int64]answer{
		2 * one: {1482910, false, api.OK}, -1: {0, false, api.ErrBelow}, 0: {0, false, api.OK},
		1: {1024, false, api.OK}, 4 * one: {2 * one, false, api.OK}, 4*one - 1: {2*one - 1, false, api.OK},
		most: {47453132, false, api.OK}, most + 1: {47453132, true, api.OK},
		math.MaxInt64: {47453132, true, api.OK}, math.MinInt64: {0, false, api.ErrBelow},
	} {
		n, changed, e := Sqrt(a)
		wantAnswer(t, "Sqrt", a, 0, answer{n, changed, e}, want)
	}
}

// B2: the number that is written, times One, rounded down and cut.
func TestParse(t *testing.T) {
	for s, want := range map[string]answer{
		"0": {0, false, api.OK}, "0.0": {0, false, api.OK}, "0.00000000000000000000": {0, false, api.OK},
		"1": {one, false, api.OK}, "-1": {-one, false, api.OK}, "1.50": {one + one/2, false, api.OK},
		"0.1": {104857, false, api.OK}, "-0.1": {-104858, false, api.OK}, "10.05": {10538188, false, api.OK},
		"0.00000095367431640625": {1, false, api.OK}, "-0.00000095367431640625": {-1, false, api.OK},
		"0.00000095367431640624": {0, false, api.OK}, "-0.00000095367431640626": {-2, false, api.OK},
		"0.00000000000000000001": {0, false, api.OK}, "-0.00000000000000000001": {-1, false, api.OK},
		"2047.99999904632568359375":   {most, false, api.OK},
		"-2047.99999904632568359375":  {-most, false, api.OK},
		"2047.99999999999999999999":   {most, false, api.OK},
		"2048":                        {most, true, api.OK},
		"-2047.99999904632568359376":  {-most, true, api.OK},
		"-2048":                       {-most, true, api.OK},
		"9999":                        {most, true, api.OK},
		"-9999.5":                     {-most, true, api.OK},
		"8796093022207":               {most, true, api.OK},
		"8796093022208":               {most, true, api.OK},
		"-8796093022208":              {-most, true, api.OK},
		"-8796093022209":              {-most, true, api.OK},
		"17592186044416":              {most, true, api.OK},
		"-17592186044416":             {-most, true, api.OK},
		strings.Repeat("9", 40):       {most, true, api.OK},
		"-" + strings.Repeat("9", 39): {-most, true, api.OK},
		"1" + strings.Repeat("0", 39): {most, true, api.OK},
		"1234567890123456789.12345678901234567890": {most, true, api.OK},
	} {
		n, changed, e := Parse(s)
		if got := (answer{n, changed, e}); got != want {
			t.Errorf("Parse(%q): %v, not %v", s, got, want)
		}
	}
}

// B2: texts that are too long, which is told first, and texts that are no numbers.
func TestParseTellsFaults(t *testing.T) {
	for s, want := range map[string]api.Errno{
		strings.Repeat("1", 41):        api.ErrLong,
		strings.Repeat("x", 41):        api.ErrLong,
		"0." + strings.Repeat("0", 39): api.ErrLong,
		strings.Repeat("1", 70000):     api.ErrLong,
		strings.Repeat("x", 40):        api.ErrText,
		"0." + strings.Repeat("1", 21): api.ErrText,
		"1.000000000000000000001":      api.ErrText,
		strings.Repeat("0", 40):        api.ErrText,
		"-0.00000000000000000000":      api.ErrText,
	} {
		n, changed, e := Parse(s)
		if got := (answer{n, changed, e}); got != (answer{0, false, want}) {
			t.Errorf("Parse(%q): %v, not %v", s, got, want)
		}
	}
	for _, s := range []string{
		"", "-", "-0", "-0.0", "--1", "+1", "+0", ".", "-.", ".5", "-.5", "1.", "-1.", "0.", "01", "00", "-01", "00.5",
		"1..5", "1.5.", "1.2.3", "1.-5", "1.+5", "1-", "1,5", "1 ", " 1", "1. 5", "1e3", "0x1", "1_0", "0.1_0",
		"1\x00", "/", ":", "1/", "1:", "0./", "0.:", "x.5", "5.x", "\u0661", "1.\u0661", "\xff", "NaN", "Inf",
	} {
		n, changed, e := Parse(s)
		if got := (answer{n, changed, e}); got != (answer{0, false, api.ErrText}) {
			t.Errorf("Parse(%q): %v", s, got)
		}
	}
}

// B2: digits of all places, ahead of the point and behind it, are what exact fractions tell.
func TestParseAsTheExactFractions(t *testing.T) {
	seed := uint64(2463534242)
	digits := func(count int) string {
		var out []byte
		for range count {
			seed ^= seed << 13
			seed ^= seed >> 7
			seed ^= seed << 17
			out = append(out, byte('0'+seed>>20%10))
		}
		return string(out)
	}
	for ahead := range 19 {
		for behind := range maxBehind + 1 {
			s := strings.TrimLeft(digits(ahead), "0")
			if s == "" {
				s = "7"
			}
			if behind > 0 {
				s += "." + digits(behind)
			}
			for _, s := range []string{s, "-" + s} {
				exact, ok := new(big.Rat).SetString(s)
				if !ok || len(s) > api.MaxFixed {
					t.Fatal(s)
				}
				exact.Mul(exact, new(big.Rat).SetInt64(one))
				want, cut := limited(down(exact.Num(), exact.Denom()))
				n, changed, e := Parse(s)
				if n != want.Int64() || changed != cut || e != api.OK {
					t.Errorf("Parse(%q): %d %v %v, not %v %v", s, n, changed, e, want, cut)
				}
			}
		}
	}
}

// B3: the shortest text that is exact.
func TestPrint(t *testing.T) {
	for n, want := range map[int64]string{
		0: "0", one: "1", -one: "-1", 10 * one: "10", 2047 * one: "2047", one + one/2: "1.5", -3 * one / 4: "-0.75",
		1: "0.00000095367431640625", -1: "-0.00000095367431640625", one + 1: "1.00000095367431640625",
		one - 1: "0.99999904632568359375", one / 1024: "0.0009765625", 2000*one + 2: "2000.0000019073486328125",
		most: "2047.99999904632568359375", most + 1: "2047.99999904632568359375",
		-most: "-2047.99999904632568359375", -most - 1: "-2047.99999904632568359375",
		math.MaxInt64: "2047.99999904632568359375", math.MinInt64: "-2047.99999904632568359375",
	} {
		if got := Print(n); got != want {
			t.Errorf("Print(%d): %s, not %s", n, got, want)
		}
	}
	for _, n := range numbers() {
		cut, _ := limited(big.NewInt(n))
		want := new(big.Rat).SetFrac(cut, big.NewInt(one)).FloatString(maxBehind)
		want = strings.TrimSuffix(strings.TrimRight(want, "0"), ".")
		if got := Print(n); got != want {
			t.Errorf("Print(%d): %s, not %s", n, got, want)
		}
	}
}

// B4: what was printed is read, and is the number that was printed.
func TestPrintedIsRead(t *testing.T) {
	for _, n := range numbers() {
		want, _ := Clamp(n)
		m, changed, e := Parse(Print(n))
		if m != want || changed || e != api.OK {
			t.Errorf("Parse(Print(%d)): %d %v %v", n, m, changed, e)
		}
	}
}

// B4: what comes of greater numbers is not less, where that is so of the exact ones.
func TestGreaterOfGreater(t *testing.T) {
	below := func(what string, a, b, got, next int64) {
		t.Helper()
		if got > next {
			t.Errorf("%s(%d, %d): %d, and %d of one more", what, a, b, got, next)
		}
	}
	for _, a := range numbers() {
		if a == math.MaxInt64 {
			continue
		}
		n, _ := Clamp(a)
		m, _ := Clamp(a + 1)
		below("Clamp", a, 0, n, m)
		n, _, _ = Sqrt(a)
		m, _, _ = Sqrt(a + 1)
		below("Sqrt", a, 0, n, m)
		for _, b := range numbers() {
			n, _ = Add(a, b)
			m, _ = Add(a+1, b)
			below("Add", a, b, n, m)
			n, _ = Sub(a, b)
			m, _ = Sub(a+1, b)
			below("Sub", a, b, n, m)
			if b < 0 {
				continue
			}
			n, _ = Mul(a, b)
			m, _ = Mul(a+1, b)
			below("Mul", a, b, n, m)
			n, _, _ = Div(a, b)
			m, _, _ = Div(a+1, b)
			below("Div", a, b, n, m)
		}
	}
}
