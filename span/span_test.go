package span

import (
	"math"
	"math/big"
	"testing"

	"gimbal/api"
)

const (
	one  = int64(api.One)
	most = int64(api.Most)
)

// line is the whole line.
var line = Span{All: true}

// ends are fixed numbers about which products, quotients and roots are rounded or too great.
func ends() []int64 {
	up := []int64{0, 1, 2, 7, 1023, one - 1, one, 3 * one, 47453132, 47453133, 2047 * one, most - 1, most}
	var out []int64
	for _, n := range up {
		out = append(out, -n, n)
	}
	return out[1:] // 0 once
}

// spans are all between those, each once.
func spans() []Span {
	var out []Span
	for i, a := range ends() {
		for _, b := range ends()[i:] {
			out = append(out, Span{Lo: min(a, b), Hi: max(a, b)})
		}
	}
	return out
}

// wrong are the whole line and what may not be, which counts as it.
func wrong() []Span {
	return []Span{
		line, {Lo: 3, Hi: 1}, {Lo: 1}, {Hi: -1}, {Lo: most, Hi: -most}, {Hi: most + 1}, {Lo: -most - 1},
		{Lo: most + 1, Hi: most + 1}, {Lo: -most - 1, Hi: -most - 1}, {Lo: math.MinInt64, Hi: math.MaxInt64},
		{Lo: math.MinInt64, Hi: math.MinInt64}, {Lo: math.MaxInt64, Hi: math.MaxInt64}, {Lo: math.MaxInt64, Hi: math.MinInt64},
		{Lo: 1, Hi: 2, All: true}, {Lo: 5, All: true}, {Hi: 5, All: true}, {Lo: -5, All: true}, {Lo: most + 1, All: true},
	}
}

// some are numbers that x has: its ends, its middle, and 0, if it has that.
func some(x Span) []int64 {
	out := []int64{x.Lo, x.Hi, x.Lo + (x.Hi-x.Lo)/2}
	if x.Lo < 0 && 0 < x.Hi {
		out = append(out, 0)
	}
	return out
}

// rounded is the tightest span of numbers that are told in steps of 1 / One.
func rounded(steps []*big.Rat) Span {
	least, greatest := steps[0], steps[0]
	for _, n := range steps {
		if n.Cmp(least) < 0 {
			least = n
		}
		if n.Cmp(greatest) > 0 {
			greatest = n
		}
	}
	lo := new(big.Int).Div(least.Num(), least.Denom())
	hi := new(big.Int).Neg(greatest.Num())
	hi.Neg(hi.Div(hi, greatest.Denom()))
	if lo.Cmp(big.NewInt(-most)) < 0 || hi.Cmp(big.NewInt(most)) > 0 {
		return line
	}
	return Span{Lo: lo.Int64(), Hi: hi.Int64()}
}

// exact is the tightest span of what comes of some numbers of x and y, the outermost among them.
func exact(x, y Span, rule func(a, b int64) *big.Rat) Span {
	var steps []*big.Rat
	for _, a := range some(x) {
		for _, b := range some(y) {
			steps = append(steps, rule(a, b))
		}
	}
	return rounded(steps)
}

func want(t *testing.T, what string, x, y, got, want Span) {
	t.Helper()
	if got != want {
		t.Errorf("%v %s %v: %v, not %v", x, what, y, got, want)
	}
}

// C1: from the lesser to the greater one; the whole line, if one is no fixed number.
func TestOf(t *testing.T) {
	for _, x := range spans() {
		want(t, "Of", x, x, Of(x.Lo, x.Hi), x)
		want(t, "Of, turned", x, x, Of(x.Hi, x.Lo), x)
	}
	for _, n := range []int64{most + 1, -most - 1, 1 << 40, math.MaxInt64, math.MinInt64} {
		for _, m := range append(ends(), n, -n, math.MinInt64) {
			want(t, "Of", Span{Lo: n, Hi: m}, Span{}, Of(n, m), line)
			want(t, "Of", Span{Lo: m, Hi: n}, Span{}, Of(m, n), line)
		}
	}
}

// C1: a span has its ends and what lies between; the whole line has all.
func TestHas(t *testing.T) {
	asked := append(ends(), 3, -3, most+1, -most-1, math.MaxInt64, math.MinInt64)
	for _, n := range asked {
		for _, x := range spans() {
			if got := x.Has(n); got != (x.Lo <= n && n <= x.Hi) {
				t.Errorf("%v Has %d: %v", x, n, got)
			}
		}
		for _, x := range wrong() {
			if !x.Has(n) {
				t.Errorf("%v Has not %d", x, n)
			}
		}
	}
}

// C1: whether one has all that another one has, what either has, and what both have.
func TestInJoinMeet(t *testing.T) {
	for _, x := range spans() {
		for _, y := range spans() {
			if got := x.In(y); got != (y.Lo <= x.Lo && x.Hi <= y.Hi) {
				t.Errorf("%v In %v: %v", x, y, got)
			}
			want(t, "Join", x, y, x.Join(y), Span{Lo: min(x.Lo, y.Lo), Hi: max(x.Hi, y.Hi)})
			m, ok := x.Meet(y)
			both, found := Span{Lo: max(x.Lo, y.Lo), Hi: min(x.Hi, y.Hi)}, true
			if both.Lo > both.Hi {
				both, found = Span{}, false
			}
			if m != both || ok != found {
				t.Errorf("%v Meet %v: %v %v", x, y, m, ok)
			}
		}
	}
}

// C1: spans that touch meet in one number; those a step apart meet in none.
func TestMeetAtTheEdges(t *testing.T) {
	if m, ok := Of(1, 3).Meet(Of(3, 5)); m != (Span{Lo: 3, Hi: 3}) || !ok {
		t.Error(m, ok)
	}
	if m, ok := Of(4, 9).Meet(Of(1, 3)); m != (Span{}) || ok {
		t.Error(m, ok)
	}
	if m, ok := Of(-1, 0).Meet(Of(0, 1)); m != (Span{}) || !ok {
		t.Error(m, ok)
	}
}

// C1: the whole line, and what may not be, has all and is in itself alone.
func TestInJoinMeetOfTheWholeLine(t *testing.T) {
	for _, w := range wrong() {
		for _, x := range spans() {
			if !x.In(w) || w.In(x) {
				t.Error(w, x, x.In(w), w.In(x))
			}
			want(t, "Join", w, x, w.Join(x), line)
			want(t, "Join", x, w, x.Join(w), line)
			if m, ok := w.Meet(x); m != x || !ok {
				t.Errorf("%v Meet %v: %v %v", w, x, m, ok)
			}
			if m, ok := x.Meet(w); m != x || !ok {
				t.Errorf("%v Meet %v: %v %v", x, w, m, ok)
			}
		}
		for _, v := range wrong() {
			if !v.In(w) {
				t.Errorf("%v not In %v", v, w)
			}
			want(t, "Join", v, w, v.Join(w), line)
			if m, ok := v.Meet(w); m != line || !ok {
				t.Errorf("%v Meet %v: %v %v", v, w, m, ok)
			}
		}
	}
}

// C2: the middle is rounded down, below 0 too; from there a span reaches to Hi.
func TestMidRad(t *testing.T) {
	for x, m := range map[Span][2]int64{
		Of(1, 4): {2, 2}, Of(1, 5): {3, 2}, Of(-4, -1): {-3, 2}, Of(-1, 0): {-1, 1}, Of(0, 1): {0, 1}, Of(-2, 1): {-1, 2},
		Of(7, 7): {7, 0}, {}: {0, 0}, Of(-most, most): {0, most}, Of(most, most): {most, 0}, Of(-most, -most): {-most, 0},
		Of(most-1, most): {most - 1, 1}, Of(-most, 1-most): {-most, 1}, Of(-most, most-1): {-1, most},
	} {
		if x.Mid() != m[0] || x.Rad() != m[1] {
			t.Errorf("%v: %d and %d, not %v", x, x.Mid(), x.Rad(), m)
		}
	}
	for _, x := range spans() {
		twice := new(big.Int).Add(big.NewInt(x.Lo), big.NewInt(x.Hi))
		mid := new(big.Int).Div(twice, big.NewInt(2)).Int64()
		if x.Mid() != mid || x.Rad() != x.Hi-mid {
			t.Errorf("%v: %d and %d, not %d", x, x.Mid(), x.Rad(), mid)
		}
	}
	for _, w := range wrong() {
		if w.Mid() != 0 || w.Rad() != most {
			t.Errorf("%v: %d and %d", w, w.Mid(), w.Rad())
		}
	}
}

// C3: of two spans comes the tightest span of the exact numbers.
func TestReckonsAsTheExactNumbers(t *testing.T) {
	for _, x := range spans() {
		for _, y := range spans() {
			want(t, "Add", x, y, x.Add(y), exact(x, y, func(a, b int64) *big.Rat {
				return big.NewRat(a+b, 1)
			}))
			want(t, "Sub", x, y, x.Sub(y), exact(x, y, func(a, b int64) *big.Rat {
				return big.NewRat(a-b, 1)
			}))
			want(t, "Mul", x, y, x.Mul(y), exact(x, y, func(a, b int64) *big.Rat {
				return big.NewRat(a*b, one)
			}))
			quotients := line
			if y.Lo > 0 || y.Hi < 0 {
				quotients = exact(x, y, func(a, b int64) *big.Rat {
					return big.NewRat(a*one, b)
				})
			}
			want(t, "Div", x, y, x.Div(y), quotients)
		}
	}
}

// C3: of one span comes the tightest span of the exact numbers.
func TestNegSqrSqrt(t *testing.T) {
	zero := Span{}
	for _, x := range spans() {
		want(t, "Neg", x, zero, x.Neg(), exact(x, zero, func(a, _ int64) *big.Rat {
			return big.NewRat(-a, 1)
		}))
		want(t, "Sqr", x, zero, x.Sqr(), exact(x, zero, func(a, _ int64) *big.Rat {
			return big.NewRat(a*a, one)
		}))
		roots := line
		if x.Hi >= 0 {
			low := new(big.Int).Sqrt(big.NewInt(max(0, x.Lo) * one))
			square := big.NewInt(x.Hi * one)
			high := new(big.Int).Sqrt(square)
			if new(big.Int).Mul(high, high).Cmp(square) < 0 {
				high.Add(high, big.NewInt(1))
			}
			roots = Span{Lo: low.Int64(), Hi: high.Int64()}
		}
		want(t, "Sqrt", x, zero, x.Sqrt(), roots)
	}
}

// C3: the document's examples, and where what comes is just a fixed number or just none.
func TestReckonsAtTheEdges(t *testing.T) {
	for i, x := range []struct{ got, want Span }{
		{Of(2, -1).Mul(Of(one, 3*one)), Span{Lo: -3, Hi: 6}},
		{Of(one, one).Div(Of(3*one, 3*one)), Span{Lo: 349525, Hi: 349526}},
		{Of(-2*one, one).Sqr(), Span{Hi: 4 * one}},
		{Of(-one, 2*one).Sqrt(), Span{Hi: 1482911}},
		{Of(1, 2).Div(Of(-1, 1)), line},
		{Of(most, most).Add(Of(1, 1)), line},
		{Of(most-1, most-1).Add(Of(1, 1)), Span{Lo: most, Hi: most}},
		{Of(1-most, 0).Sub(Of(0, 1)), Span{Lo: -most}},
		{Of(1-most, 0).Sub(Of(0, 2)), line},
		{Of(0, most-1).Sub(Of(-2, 0)), line},
		{Of(-most, most).Neg(), Span{Lo: -most, Hi: most}},
		{Of(1, 1).Mul(Of(1, 1)), Span{Hi: 1}},
		{Of(-1, -1).Mul(Of(1, 1)), Span{Lo: -1}},
		{Of(0, 0).Mul(Of(-most, most)), Span{}},
		// The root of Most One lies between 47453132 and 47453133.
		{Of(47453132, 47453132).Sqr(), Span{Lo: 2147483574, Hi: 2147483575}},
		{Of(47453133, 47453133).Sqr(), line},
		{Of(-47453133, 47453133).Mul(Of(47453133, 47453133)), line},
		// Less than a step beyond Most, and less than a step within: just one of both roundings leaves the fixed numbers.
		{Of(40000018, 40000018).Mul(Of(56294970, 56294970)), line},
		{Of(-40000018, -40000018).Mul(Of(56294970, 56294970)), line},
		{Of(40000013, 40000013).Mul(Of(56294977, 56294977)), Span{Lo: most - 1, Hi: most}},
		{Of(-40000013, -40000013).Mul(Of(56294977, 56294977)), Span{Lo: -most, Hi: 1 - most}},
		{Of(2048002047, 2048002047).Div(Of(1000001, 1000001)), Span{Lo: most - 1, Hi: most}},
		{Of(-2048002047, -2048002047).Div(Of(1000001, 1000001)), Span{Lo: -most, Hi: 1 - most}},
		{Of(0, 0).Div(Of(1, most)), Span{}},
		{Of(0, 0).Div(Of(0, 1)), line},
		{Of(0, 0).Div(Of(-1, 0)), line},
		{Of(1, 2).Div(Of(0, 0)), line},
		{Of(-1, 1).Div(Of(-most, -most)), Span{Lo: -1, Hi: 1}},
		{Of(2047, 2047).Div(Of(1, 1)), Span{Lo: 2047 * one, Hi: 2047 * one}},
		{Of(2048, 2048).Div(Of(1, 1)), line},
		{Of(2047, 2047).Div(Of(-1, -1)), Span{Lo: -2047 * one, Hi: -2047 * one}},
		{Of(-2048, 0).Div(Of(1, 1)), line},
		{Of(-2048, 0).Div(Of(-1, -1)), line},
		{Of(-7, 5).Div(Of(-2*one, -2*one)), Span{Lo: -3, Hi: 4}},
		{Of(-2, -1).Sqrt(), line},
		{Of(-most, 0).Sqrt(), Span{}},
		{Of(0, 1).Sqrt(), Span{Hi: 1024}},
		{Of(1, 2).Sqrt(), Span{Lo: 1024, Hi: 1449}},
		{Of(most, most).Sqrt(), Span{Lo: 47453132, Hi: 47453133}},
	} {
		if x.got != x.want {
			t.Errorf("%d: %v, not %v", i, x.got, x.want)
		}
	}
}

// C3: with the whole line, or what may not be, among what is handed in: the whole line.
func TestReckonsOfTheWholeLine(t *testing.T) {
	zero := Span{}
	for _, w := range wrong() {
		want(t, "Neg", w, zero, w.Neg(), line)
		want(t, "Sqr", w, zero, w.Sqr(), line)
		want(t, "Sqrt", w, zero, w.Sqrt(), line)
		for _, x := range append(wrong(), spans()...) {
			want(t, "Add", w, x, w.Add(x), line)
			want(t, "Add", x, w, x.Add(w), line)
			want(t, "Sub", w, x, w.Sub(x), line)
			want(t, "Sub", x, w, x.Sub(w), line)
			want(t, "Mul", w, x, w.Mul(x), line)
			want(t, "Mul", x, w, x.Mul(w), line)
			want(t, "Div", w, x, w.Div(x), line)
			want(t, "Div", x, w, x.Div(w), line)
		}
	}
}

// narrower are spans in x.
func narrower(x Span) []Span {
	mid := x.Lo + (x.Hi-x.Lo)/2
	return []Span{x, {Lo: x.Lo, Hi: x.Lo}, {Lo: mid, Hi: x.Hi}, {Lo: x.Lo + (mid-x.Lo)/3, Hi: mid}}
}

func wantIn(t *testing.T, what string, x, y, got, wide Span) {
	t.Helper()
	if !got.In(wide) {
		t.Errorf("%v %s %v: %v, not in %v", x, what, y, got, wide)
	}
}

// C4: of narrower spans comes what is in that of wider ones.
func TestNarrowerOfNarrower(t *testing.T) {
	for _, x := range spans() {
		for _, n := range narrower(x) {
			wantIn(t, "Neg", n, n, n.Neg(), x.Neg())
			wantIn(t, "Sqr", n, n, n.Sqr(), x.Sqr())
			if n.Hi >= 0 {
				wantIn(t, "Sqrt", n, n, n.Sqrt(), x.Sqrt())
			}
		}
		for _, y := range spans() {
			sum, less, mul, div, join := x.Add(y), x.Sub(y), x.Mul(y), x.Div(y), x.Join(y)
			for i, n := range narrower(x) {
				m := narrower(y)[(i+1)%4]
				wantIn(t, "Add", n, m, n.Add(m), sum)
				wantIn(t, "Sub", n, m, n.Sub(m), less)
				wantIn(t, "Mul", n, m, n.Mul(m), mul)
				wantIn(t, "Div", n, m, n.Div(m), div)
				wantIn(t, "Join", n, m, n.Join(m), join)
			}
		}
	}
}

// C4: what is in spans is in what comes of them, step by step through small ones.
func TestWhatIsInStaysIn(t *testing.T) {
	x, y := Of(-5*one-3, -5*one+4), Of(3*one-2, 3*one+5)
	sum, less, mul, div, square := x.Add(y), x.Sub(y), x.Mul(y), x.Div(y), x.Sqr()
	in := func(what string, a, b int64, n *big.Rat, s Span) {
		if n.Cmp(big.NewRat(s.Lo, 1)) < 0 || n.Cmp(big.NewRat(s.Hi, 1)) > 0 || s.All {
			t.Errorf("%d %s %d is not in %v", a, what, b, s)
		}
	}
	for a := x.Lo; a <= x.Hi; a++ {
		in("Sqr", a, a, big.NewRat(a*a, one), square)
		for b := y.Lo; b <= y.Hi; b++ {
			in("Add", a, b, big.NewRat(a+b, 1), sum)
			in("Sub", a, b, big.NewRat(a-b, 1), less)
			in("Mul", a, b, big.NewRat(a*b, one), mul)
			in("Div", a, b, big.NewRat(a*one, b), div)
		}
	}
}
