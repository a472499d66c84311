package vec

import (
	"math"
	"math/big"
	"testing"

	"gimbal/api"
	"gimbal/span"
)

const (
	one  = int64(api.One)
	most = int64(api.Most)
)

// line is the whole line.
var line = span.Span{All: true}

func at(n int64) span.Span { return span.Of(n, n) }

// parts are spans about which products and sums are rounded or too great.
func parts() []span.Span {
	return []span.Span{
		at(0), at(1), at(-1), at(3), at(one), at(-2 * one), at(47453133), at(-47453132), at(most), at(-most),
		span.Of(0, 1), span.Of(-1, 0), span.Of(-1, 1), span.Of(1, 4), span.Of(-9, 9), span.Of(-7, 1023), span.Of(one-1, one+1), span.Of(-3*one, 2*one),
		span.Of(-5*one, -one), span.Of(0, 47453132), span.Of(2047*one, most), span.Of(-most, 0), span.Of(-most, most), line,
	}
}

// wrong are spans that may not be, which count as the whole line.
func wrong() []span.Span {
	return []span.Span{
		{Lo: 3, Hi: 1}, {Lo: one}, {Hi: -1}, {Lo: most, Hi: -most}, {Hi: most + 1}, {Lo: -most - 1}, {Lo: most + 1, Hi: most + 1},
		{Lo: math.MinInt64, Hi: math.MaxInt64}, {Lo: math.MinInt64, Hi: math.MinInt64}, {Lo: math.MaxInt64, Hi: math.MaxInt64},
		{Lo: math.MaxInt64, Hi: math.MinInt64}, {Lo: 1, Hi: 2, All: true}, {Hi: 5, All: true}, {Lo: -5, All: true}, {Lo: most + 1, All: true},
	}
}

// vectors are mixed of those parts, so that each stands at each place beside several others.
func vectors() []Vec {
	p := parts()
	var out []Vec
	for i := range p {
		for j := 0; j < len(p); j += 5 {
			out = append(out, Vec{p[i], p[(5*i+7*j)%len(p)], p[(11*i+j+3)%len(p)]})
		}
	}
	return append(out, Of(one, 2*one, -one), Of(3*one, 4*one, 0), Of(1, 2, 3), Of(-7*one, 5, 11*one),
		Vec{span.Of(-one, one), span.Of(one/3, one/2), span.Of(-2, 3*one)})
}

// tight is the tightest span of real numbers of which the least and the greatest are told in steps of 1 / One.
func tight(steps ...*big.Rat) span.Span {
	least, greatest := steps[0], steps[0]
	for _, n := range steps {
		if n.Cmp(least) < 0 {
			least = n
		}
		if n.Cmp(greatest) > 0 {
			greatest = n
		}
	}
	lo := new(big.Int).Div(least.Num(), least.Denom())
	hi := new(big.Int).Neg(greatest.Num())
	hi.Neg(hi.Div(hi, greatest.Denom()))
	if lo.Cmp(big.NewInt(-most)) < 0 || hi.Cmp(big.NewInt(most)) > 0 {
		return line
	}
	return span.Span{Lo: lo.Int64(), Hi: hi.Int64()}
}

// exact is the tightest span of what comes of the ends of x and y by a rule of exact numbers.
func exact(x, y span.Span, rule func(a, b *big.Rat) *big.Rat) span.Span {
	if x == line || y == line {
		return line
	}
	var steps []*big.Rat
	for _, a := range []int64{x.Lo, x.Hi} {
		for _, b := range []int64{y.Lo, y.Hi} {
			steps = append(steps, rule(big.NewRat(a, 1), big.NewRat(b, 1)))
		}
	}
	return tight(steps...)
}

func plus(x, y span.Span) span.Span {
	return exact(x, y, func(a, b *big.Rat) *big.Rat { return new(big.Rat).Add(a, b) })
}

func minus(x, y span.Span) span.Span {
	return exact(x, y, func(a, b *big.Rat) *big.Rat { return new(big.Rat).Sub(a, b) })
}

func times(x, y span.Span) span.Span {
	return exact(x, y, func(a, b *big.Rat) *big.Rat {
		return new(big.Rat).Mul(new(big.Rat).Mul(a, b), big.NewRat(1, one))
	})
}

func square(x span.Span) span.Span {
	if x == line {
		return line
	}
	ends := []*big.Rat{big.NewRat(0, 1), big.NewRat(x.Lo, 1), big.NewRat(x.Hi, 1)}
	for _, n := range ends {
		n.Mul(n, n).Mul(n, big.NewRat(1, one))
	}
	if x.Lo <= 0 && 0 <= x.Hi {
		return tight(ends...)
	}
	return tight(ends[1:]...)
}

func want[T comparable](t *testing.T, what string, v, w Vec, got, want T) {
	t.Helper()
	if got != want {
		t.Errorf("%v %s %v: %v, not %v", v, what, w, got, want)
	}
}

// The document's examples.
func TestExamples(t *testing.T) {
	for i, x := range []struct{ got, want any }{
		{Of(one, 2*one, 0).Dot(Of(3*one, one, 5)), span.Span{Lo: 5 * one, Hi: 5 * one}},
		{Of(one, 0, 0).Cross(Of(0, one, 0)), Vec{{}, {}, {Lo: one, Hi: one}}},
		{Of(3*one, 4*one, 0).Norm2(), span.Span{Lo: 25 * one, Hi: 25 * one}},
		{Of(1, 2, 3).Rad(), int64(0)},
		{Of(1, 2, 1<<40).Rad(), most},
	} {
		if x.got != x.want {
			t.Errorf("%d: %v, not %v", i, x.got, x.want)
		}
	}
}

// E1: the spans of three numbers alone; the whole line for each that is no fixed one.
func TestOf(t *testing.T) {
	want(t, "Of", Vec{}, Vec{}, Of(1, -2, 3), Vec{{Lo: 1, Hi: 1}, {Lo: -2, Hi: -2}, {Lo: 3, Hi: 3}})
	want(t, "Of", Vec{}, Vec{}, Of(most, -most, 0), Vec{{Lo: most, Hi: most}, {Lo: -most, Hi: -most}, {}})
	for _, n := range []int64{most + 1, -most - 1, 1 << 40, math.MaxInt64, math.MinInt64} {
		want(t, "Of", Vec{}, Vec{}, Of(n, 2, 3), Vec{line, at(2), at(3)})
		want(t, "Of", Vec{}, Vec{}, Of(1, n, 3), Vec{at(1), line, at(3)})
		want(t, "Of", Vec{}, Vec{}, Of(1, 2, n), Vec{at(1), at(2), line})
	}
}

// E1: part by part, and each part times one span.
func TestAddSubScale(t *testing.T) {
	for _, v := range vectors() {
		for _, w := range vectors() {
			want(t, "Add", v, w, v.Add(w), Vec{plus(v[0], w[0]), plus(v[1], w[1]), plus(v[2], w[2])})
			want(t, "Sub", v, w, v.Sub(w), Vec{minus(v[0], w[0]), minus(v[1], w[1]), minus(v[2], w[2])})
		}
		for _, s := range parts() {
			want(t, "Scale", v, Vec{s}, v.Scale(s), Vec{times(v[0], s), times(v[1], s), times(v[2], s)})
		}
	}
}

// E2: the inner and the outer product, and the square of the length.
func TestDotCrossNorm2(t *testing.T) {
	for _, v := range vectors() {
		for _, w := range vectors() {
			want(t, "Dot", v, w, v.Dot(w), plus(plus(times(v[0], w[0]), times(v[1], w[1])), times(v[2], w[2])))
			want(t, "Cross", v, w, v.Cross(w), Vec{
				minus(times(v[1], w[2]), times(v[2], w[1])),
				minus(times(v[2], w[0]), times(v[0], w[2])),
				minus(times(v[0], w[1]), times(v[1], w[0])),
			})
		}
		want(t, "Norm2", v, Vec{}, v.Norm2(), plus(plus(square(v[0]), square(v[1])), square(v[2])))
	}
}

// E2: products are added from the first to the third one: what leaves the fixed numbers on the way does not come back.
func TestDotAddsInOrder(t *testing.T) {
	ones := Of(one, one, one)
	want(t, "Dot", ones, Vec{}, ones.Dot(Of(most, 1, -1)), line)
	want(t, "Dot", ones, Vec{}, ones.Dot(Of(1, most, -1)), line)
	want(t, "Dot", ones, Vec{}, ones.Dot(Of(most, -1, 1)), at(most))
	want(t, "Dot", ones, Vec{}, ones.Dot(Of(-1, most, 1)), at(most))
	want(t, "Dot", ones, Vec{}, ones.Dot(Of(1, -1, most)), at(most))
	want(t, "Dot", ones, Vec{}, ones.Dot(Of(-1, 1, most)), at(most))
	want(t, "Dot", ones, Vec{}, ones.Dot(Of(-most, -1, 1)), line)
	want(t, "Dot", ones, Vec{}, ones.Dot(Of(-most, 1, -1)), at(-most))
}

// E2: a part's square is that of one number, not a product of two: it is not below 0.
func TestNorm2IsOfSquares(t *testing.T) {
	v := Vec{span.Of(-one, 2*one), at(0), span.Of(-1, 1)}
	want(t, "Norm2", v, Vec{}, v.Norm2(), span.Span{Lo: 0, Hi: 4*one + 1})
	want(t, "Dot", v, v, v.Dot(v), span.Span{Lo: -2*one - 1, Hi: 4*one + 1})
	// Each square is rounded ahead of the sum.
	v = Of(1, 1, 1)
	want(t, "Norm2", v, Vec{}, v.Norm2(), span.Span{Lo: 0, Hi: 3})
	v = Of(47453132, 0, 0)
	want(t, "Norm2", v, Vec{}, v.Norm2(), square(at(47453132)))
	v = Of(47453133, 0, 0)
	want(t, "Norm2", v, Vec{}, v.Norm2(), line)
}

// E3: each part in the other one's; a single one that is not is enough.
func TestIn(t *testing.T) {
	w := Vec{span.Of(-5, 5), span.Of(0, 9), span.Of(-most, most)}
	want(t, "In", w, w, w.In(w), true)
	for i, x := range []struct {
		v  Vec
		in bool
	}{
		{Of(0, 0, 0), true}, {Of(5, 9, most), true}, {Of(-5, 0, -most), true},
		{Of(6, 9, 0), false}, {Of(-6, 9, 0), false}, {Of(0, -1, 0), false}, {Of(0, 10, 0), false}, {Of(0, 0, most+1), false},
		{Vec{line, at(0), at(0)}, false}, {Vec{at(0), line, at(0)}, false}, {Vec{at(0), at(0), line}, false},
	} {
		if got := x.v.In(w); got != x.in {
			t.Errorf("%d: %v In %v: %v", i, x.v, w, got)
		}
	}
	for _, v := range vectors() {
		want(t, "In", v, v, v.In(v), true)
		want(t, "In", v, Vec{line, line, line}, v.In(Vec{line, line, line}), true)
		for _, w := range vectors() {
			in := true
			for i := range v {
				in = in && (w[i] == line || v[i] != line && w[i].Lo <= v[i].Lo && v[i].Hi <= w[i].Hi)
			}
			want(t, "In", v, w, v.In(w), in)
		}
	}
}

// E3: the parts' middles, rounded down, and the greatest one of their Rads, wherever it stands.
func TestMidRad(t *testing.T) {
	p := [3]span.Span{span.Of(1, 4), span.Of(-4, -1), span.Of(-9, 9)}
	for i := range p {
		v := Vec{p[i], p[(i+1)%3], p[(i+2)%3]}
		mids := [3]int64{2, -3, 0}
		want(t, "Mid", v, Vec{}, v.Mid(), [3]int64{mids[i], mids[(i+1)%3], mids[(i+2)%3]})
		want(t, "Rad", v, Vec{}, v.Rad(), 9)
		v[i] = line
		mid := v.Mid()
		want(t, "Mid of the line", v, Vec{}, mid[i], 0)
		want(t, "Rad of the line", v, Vec{}, v.Rad(), most)
	}
	v := Vec{span.Of(1, 4), at(-most), at(7)}
	want(t, "Mid", v, Vec{}, v.Mid(), [3]int64{2, -most, 7})
	want(t, "Rad", v, Vec{}, v.Rad(), 2)
	v = Vec{span.Of(-most, most), span.Of(most-1, most), at(0)}
	want(t, "Mid", v, Vec{}, v.Mid(), [3]int64{0, most - 1, 0})
	want(t, "Rad", v, Vec{}, v.Rad(), most)
}

// What may not be counts as the whole line, at every place and in every call.
func TestWhatMayNotBeIsTheLine(t *testing.T) {
	w := Vec{span.Of(-5, 5), at(3 * one), span.Of(0, one)}
	for _, x := range wrong() {
		for i := range w {
			bad, good := Of(one, 2*one, 3*one), Of(one, 2*one, 3*one)
			bad[i], good[i] = x, line
			want(t, "Add", bad, w, bad.Add(w), good.Add(w))
			want(t, "Add", w, bad, w.Add(bad), w.Add(good))
			want(t, "Sub", bad, w, bad.Sub(w), good.Sub(w))
			want(t, "Sub", w, bad, w.Sub(bad), w.Sub(good))
			want(t, "Scale", bad, w, bad.Scale(at(one)), good)
			want(t, "Dot", bad, w, bad.Dot(w), line)
			want(t, "Dot", w, bad, w.Dot(bad), line)
			crossed := Vec{line, line, line}
			crossed[i] = good.Cross(w)[i]
			want(t, "Cross", bad, w, bad.Cross(w), crossed)
			crossed[i] = w.Cross(good)[i]
			want(t, "Cross", w, bad, w.Cross(bad), crossed)
			want(t, "Norm2", bad, w, bad.Norm2(), line)
			want(t, "In", bad, w, bad.In(Vec{line, line, line}), true)
			want(t, "In", bad, w, bad.In(Of(one, 2*one, 3*one)), false)
			want(t, "In", w, bad, Of(one, 2*one, 3*one).In(bad), true)
			want(t, "Mid", bad, w, bad.Mid(), good.Mid())
			want(t, "Rad", bad, w, bad.Rad(), most)
		}
		want(t, "Scale", w, Vec{x}, w.Scale(x), Vec{line, line, line})
	}
}

// narrower are vectors that are in v: its middle, and its corners.
func narrower(v Vec) []Vec {
	for i, x := range v {
		if x == line {
			v[i] = span.Of(-7, most)
		}
	}
	m := v.Mid()
	return []Vec{Of(m[0], m[1], m[2]), Of(v[0].Lo, v[1].Hi, v[2].Lo), Of(v[0].Hi, v[1].Lo, v[2].Hi), {v[0], at(m[1]), v[2]}}
}

// E4: of what is in vectors comes what is in that of these.
func TestWhatIsInStaysIn(t *testing.T) {
	for _, v := range vectors() {
		for _, a := range narrower(v) {
			want(t, "In", a, v, a.In(v), true)
			want(t, "Norm2 In", a, v, a.Norm2().In(v.Norm2()), true)
			for _, s := range parts() {
				want(t, "Scale In", a, v, a.Scale(at(s.Mid())).In(v.Scale(s)), true)
			}
		}
	}
	all := vectors()
	for i, v := range all {
		for j := i % 3; j < len(all); j += 3 {
			w := all[j]
			for _, a := range narrower(v) {
				for _, b := range narrower(w) {
					want(t, "Add In", a, b, a.Add(b).In(v.Add(w)), true)
					want(t, "Sub In", a, b, a.Sub(b).In(v.Sub(w)), true)
					want(t, "Cross In", a, b, a.Cross(b).In(v.Cross(w)), true)
					want(t, "Dot In", a, b, a.Dot(b).In(v.Dot(w)), true)
				}
			}
		}
	}
}

// What is handed in stays as it is.
func TestHandedInStays(t *testing.T) {
	v, w := Of(one, 2*one, 3*one), Vec{span.Of(-5, 5), line, at(7)}
	x, y := v, w
	v.Add(w)
	v.Sub(w)
	v.Cross(w)
	v.Dot(w)
	v.Scale(w[0])
	v.Norm2()
	v.In(w)
	if v != x || w != y {
		t.Error(v, w)
	}
}
