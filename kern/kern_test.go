package kern

import (
	"math"
	"math/big"
	"testing"

	"gimbal/api"
	"gimbal/span"
)

const (
	one  = int64(api.One)
	most = int64(api.Most)
)

// line is the whole line.
var line = span.Span{All: true}

func at(n int64) span.Span { return span.Of(n, n) }

// rules are the three functions, by the factorial that their first term is over.
func rules() map[int64]func(span.Span) span.Span {
	return map[int64]func(span.Span) span.Span{1: A, 2: B, 0: C}
}

// exact is the sum of so many terms of n / One, times One, as its words say it.
func exact(n, first, terms int64) *big.Rat {
	out := new(big.Rat)
	power := big.NewRat(1, 1)
	for k := int64(0); k < terms; k++ {
		factorial := new(big.Int).MulRange(1, 2*k+first)
		out.Add(out, new(big.Rat).Quo(power, new(big.Rat).SetInt(factorial)))
		power.Mul(power, big.NewRat(-n, one))
	}
	return out.Mul(out, big.NewRat(one, 1))
}

func floor(r *big.Rat) int64 {
	return new(big.Int).Div(r.Num(), r.Denom()).Int64()
}

func ceiling(r *big.Rat) int64 {
	return -floor(new(big.Rat).Neg(r))
}

// squares are numbers from 0 to 4, the edges and their neighbours among them.
func squares() []int64 {
	out := []int64{0, 1, 2, 3, 5, 6, 1023, 1024, one - 1, one, one + 1, 2*one - 1, 2 * one, 3*one + 7, 4*one - 2, 4*one - 1, 4 * one}
	for n := int64(11); n < 4*one; n += 33331 {
		out = append(out, n)
	}
	return out
}

// angles are numbers from -2 to 2 whose squares are not above 4.
func angles() []int64 {
	out := []int64{0}
	for _, n := range []int64{1, 2, 1023, 1024, 1025, one / 3, one - 1, one, one + 1, 1647099, 3 * one / 2, 2*one - 1, 2 * one} {
		out = append(out, n, -n)
	}
	for n := -2*one + 5; n < 2*one; n += 66667 {
		out = append(out, n)
	}
	return out
}

// wrong are the whole line and what may not be, which counts as it.
func wrong() []span.Span {
	return []span.Span{
		line, {Lo: 3, Hi: 1}, {Lo: one, Hi: one - 1}, {Lo: 4 * one}, {Hi: most + 1}, {Lo: -most - 1, Hi: one}, {Lo: most + 1, Hi: most + 1},
		{Lo: math.MinInt64, Hi: math.MaxInt64}, {Lo: math.MinInt64, Hi: math.MinInt64}, {Lo: math.MaxInt64, Hi: math.MaxInt64},
		{Lo: math.MaxInt64, Hi: math.MinInt64}, {Lo: 1, Hi: 2, All: true}, {Hi: one, All: true}, {Lo: 5, All: true}, {Lo: -5, All: true},
	}
}

func want(t *testing.T, what string, x, got, want span.Span) {
	t.Helper()
	if got != want {
		t.Errorf("%s of %v: %v, not %v", what, x, got, want)
	}
}

// The document's examples, and the ends of what has sums.
func TestExamples(t *testing.T) {
	for i, x := range []struct{ got, want span.Span }{
		{A(at(0)), span.Span{Lo: one, Hi: one}},
		{B(at(0)), span.Span{Lo: one / 2, Hi: one / 2}},
		{C(at(0)), span.Span{Lo: one, Hi: one}},
		{A(at(one)), span.Span{Lo: 882346, Hi: 882347}},
		{Sin(at(one)), span.Span{Lo: 882346, Hi: 882347}},
		{Cos(at(one)), span.Span{Lo: 566548, Hi: 566549}},
		{Cos(at(2 * one)), span.Span{Lo: -436362, Hi: -436361}},
		{A(span.Of(-1, 0)), line},
		{A(span.Of(0, 4*one+1)), line},
		{A(span.Of(0, 4*one)), span.Span{Lo: 476733, Hi: one}},
		{B(span.Of(0, 4*one)), span.Span{Lo: 371234, Hi: one / 2}},
		{C(span.Of(0, 4*one)), span.Span{Lo: -436362, Hi: one}},
		{A(at(1)), span.Span{Lo: one - 1, Hi: one}},
		{C(at(1)), span.Span{Lo: one - 1, Hi: one}},
		{C(at(2)), span.Span{Lo: one - 1, Hi: one}},
		{C(at(3)), span.Span{Lo: one - 2, Hi: one - 1}},
		{Sin(at(-one)), span.Span{Lo: -882347, Hi: -882346}},
		{Cos(at(-one)), span.Span{Lo: 566548, Hi: 566549}},
		{Sin(at(0)), span.Span{}},
		{Cos(at(0)), span.Span{Lo: one, Hi: one}},
		{Cos(span.Of(-one, 2*one)), span.Span{Lo: -436362, Hi: one}},
	} {
		if x.got != x.want {
			t.Errorf("%d: %v, not %v", i, x.got, x.want)
		}
	}
}

// D1: the sums themselves are exact, term by term. (How many there are is seldom to be seen once they are rounded.)
func TestSumsAreExact(t *testing.T) {
	for first := range rules() {
		for terms := int64(1); terms <= 14; terms++ {
			for _, n := range []int64{0, 1, 7, one - 1, one, 3*one + 7, 4*one - 1, 4 * one} {
				top, under := sum(n, first, terms)
				got, ok := new(big.Rat).SetString(top.String() + "/" + under.String())
				if !ok || got.Cmp(exact(n, first, terms)) != 0 {
					t.Errorf("%d terms of %d from %d: %v / %v", terms, n, first, top, under)
				}
			}
		}
	}
	if termsBelow != 12 || termsAbove != 13 {
		t.Error(termsBelow, termsAbove)
	}
}

// D1: Lo is rounded down of Hi's sum of 12 terms, Hi is rounded up of Lo's sum of 13.
func TestEnclosesItsSums(t *testing.T) {
	all := squares()
	for first, rule := range rules() {
		below, above := map[int64]int64{}, map[int64]int64{}
		for _, n := range all {
			below[n] = floor(exact(n, first, 12))
			above[n] = ceiling(exact(n, first, 13))
		}
		for i, a := range all {
			want(t, "the sum", at(a), rule(at(a)), span.Span{Lo: below[a], Hi: above[a]})
			b := all[(i*7+3)%len(all)]
			s := span.Of(a, b)
			want(t, "the sum", s, rule(s), span.Span{Lo: below[s.Hi], Hi: above[s.Lo]})
		}
	}
}

// D1: the whole line comes of what reaches below 0 or above 4, by however little, and of the whole line.
func TestWholeLine(t *testing.T) {
	out := []span.Span{
		at(-1), span.Of(-1, 0), span.Of(-1, one), span.Of(-most, -1), span.Of(-1, 4*one), span.Of(-most, 4*one),
		at(4*one + 1), span.Of(0, 4*one+1), span.Of(4*one, 4*one+1), span.Of(one, most), at(most), at(-most),
		span.Of(-1, 4*one+1), span.Of(-most, most),
	}
	for first, rule := range rules() {
		for _, s := range append(out, wrong()...) {
			if got := rule(s); got != line {
				t.Errorf("from %d, of %v: %v", first, s, got)
			}
		}
	}
	for _, x := range append(wrong(), at(2*one+1), at(-2*one-1), span.Of(0, 2*one+1), span.Of(-2*one-1, 2*one), at(most), at(-most), span.Of(-most, most)) {
		want(t, "Sin", x, Sin(x), line)
		want(t, "Cos", x, Cos(x), line)
	}
}

// D2: what the square's sums tell, by span's own calls.
func TestSinCosByTheSquare(t *testing.T) {
	all := angles()
	for i, a := range all {
		for _, x := range []span.Span{at(a), span.Of(a, all[(i*5+2)%len(all)])} {
			s := x.Sqr()
			sine := span.Of(floor(exact(s.Hi, 1, 12)), ceiling(exact(s.Lo, 1, 13)))
			cosine := span.Of(floor(exact(s.Hi, 0, 12)), ceiling(exact(s.Lo, 0, 13)))
			want(t, "Sin", x, Sin(x), x.Mul(sine))
			want(t, "Cos", x, Cos(x), cosine)
		}
	}
}

// inside tells whether a float, times One, is in s. What a float is told amiss by is far less than a step; an end that
// is told exactly needs the margin.
func inside(f float64, s span.Span) bool {
	const margin = 1e-6
	f *= float64(one)
	return !s.All && float64(s.Lo)-margin <= f && f <= float64(s.Hi)+margin
}

// D3: the true sines and cosines of what a span has are in what comes of it.
func TestTrueValuesAreIn(t *testing.T) {
	for _, n := range angles() {
		f := float64(n) / float64(one)
		for _, reach := range []int64{0, 1, 40, 5000, one / 2} {
			x := span.Of(max(n-reach, -2*one), min(n+reach, 2*one))
			if !inside(math.Sin(f), Sin(x)) || !inside(math.Cos(f), Cos(x)) {
				t.Errorf("%d in %v: %v, %v", n, x, Sin(x), Cos(x))
			}
		}
	}
	for _, n := range squares()[1:] {
		s := float64(n) / float64(one)
		a := math.Sqrt(s)
		half := math.Sin(a / 2)
		if !inside(math.Sin(a)/a, A(at(n))) || !inside(2*half*half/s, B(at(n))) || !inside(math.Cos(a), C(at(n))) {
			t.Errorf("%d: %v, %v, %v", n, A(at(n)), B(at(n)), C(at(n)))
		}
	}
}

// D3: an enclosure of one number is no wider than a step, so that it tells something.
func TestTight(t *testing.T) {
	for first, rule := range rules() {
		for _, n := range squares() {
			if s := rule(at(n)); s.Hi-s.Lo > 1 {
				t.Errorf("from %d, of %d: %v", first, n, s)
			}
		}
	}
}

// D3: of greater numbers come no greater ones, and of narrower spans what is in that of wider ones.
func TestFalls(t *testing.T) {
	for first, rule := range rules() {
		for _, start := range []int64{0, one - 100, 2*one + 12345, 4*one - 200} {
			last := rule(at(start))
			for n := start + 1; n <= start+200; n++ {
				s := rule(at(n))
				if s.Lo > last.Lo || s.Hi > last.Hi {
					t.Errorf("from %d: %v of %d, %v before it", first, s, n, last)
				}
				if wide := rule(span.Of(start, start+200)); !s.In(wide) {
					t.Errorf("from %d: %v of %d, not in %v", first, s, n, wide)
				}
				last = s
			}
		}
	}
}

// D3: the squares make 1, and B tells the same cosine as C.
func TestSquaresMakeOne(t *testing.T) {
	for _, n := range angles() {
		x := at(n)
		if s := Sin(x).Sqr().Add(Cos(x).Sqr()); !s.Has(one) {
			t.Errorf("%d: %v", n, s)
		}
		s := x.Sqr()
		if _, ok := C(s).Meet(at(one).Sub(s.Mul(B(s)))); !ok {
			t.Errorf("%d: %v, %v", n, C(s), B(s))
		}
	}
}

// D3: the sine and the cosine of a sum are what those of its parts say.
func TestSinesOfSums(t *testing.T) {
	for _, a := range angles() {
		for _, b := range angles() {
			if a+b < -2*one || a+b > 2*one {
				continue
			}
			x, y := at(a), at(b)
			sine := Sin(x).Mul(Cos(y)).Add(Cos(x).Mul(Sin(y)))
			cosine := Cos(x).Mul(Cos(y)).Sub(Sin(x).Mul(Sin(y)))
			_, first := sine.Meet(Sin(at(a + b)))
			_, second := cosine.Meet(Cos(at(a + b)))
			if !first || !second || sine.All || cosine.All {
				t.Errorf("%d and %d: %v, %v", a, b, sine, cosine)
			}
		}
	}
}
