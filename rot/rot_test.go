package rot

import (
	"math"
	"math/big"
	"testing"

	"gimbal/api"
	"gimbal/kern"
	"gimbal/span"
	"gimbal/vec"
)

const (
	one  = int64(api.One)
	most = int64(api.Most)
)

// line is the whole line.
var line = span.Span{All: true}

// lines has everything at each place.
var lines = Rot{{line, line, line}, {line, line, line}, {line, line, line}}

func at(n int64) span.Span { return span.Of(n, n) }

// whole is a matrix of whole numbers alone.
func whole(n [9]int64) Rot {
	return Rot{
		vec.Of(n[0]*one, n[1]*one, n[2]*one),
		vec.Of(n[3]*one, n[4]*one, n[5]*one),
		vec.Of(n[6]*one, n[7]*one, n[8]*one),
	}
}

// wrong are spans that may not be, which count as the whole line.
func wrong() []span.Span {
	return []span.Span{
		{Lo: 3, Hi: 1}, {Lo: one}, {Hi: -1}, {Lo: most, Hi: -most}, {Hi: most + 1}, {Lo: -most - 1}, {Lo: most + 1, Hi: most + 1},
		{Lo: math.MinInt64, Hi: math.MaxInt64}, {Lo: math.MinInt64, Hi: math.MinInt64}, {Lo: math.MaxInt64, Hi: math.MaxInt64},
		{Lo: math.MaxInt64, Hi: math.MinInt64}, {Lo: 1, Hi: 2, All: true}, {Hi: 5, All: true}, {Lo: -5, All: true}, {Lo: most + 1, All: true},
	}
}

// points are vectors of one number each that are not longer than 2.
func points() []vec.Vec {
	var out []vec.Vec
	for _, n := range []int64{1, 2, 1023, 1024, one / 3, one - 1, one, one + 1, 3*one/2 + 7, 2*one - 1, 2 * one} {
		out = append(out, vec.Of(n, 0, 0), vec.Of(-n, 0, 0), vec.Of(0, n, 0), vec.Of(0, -n, 0), vec.Of(0, 0, n), vec.Of(0, 0, -n))
	}
	for x := -one; x <= one; x += 299593 {
		for y := -one + 5; y <= one; y += 299569 {
			for z := -one + 11; z <= one; z += 299567 {
				out = append(out, vec.Of(x, y, z))
			}
		}
	}
	return append(out, vec.Of(0, 0, 0), vec.Of(one, one, one), vec.Of(-one, one, -one), vec.Of(one/3, -one/5, one/7), vec.Of(1, -2, 3), vec.Of(4*one/3, 4*one/3, 2*one/3))
}

// wide are vectors of spans about those points, some of which have vectors that are longer than 2.
func wide() []vec.Vec {
	var out []vec.Vec
	for i, w := range points() {
		m := w.Mid()
		r := [5]int64{0, 1, 40, 5000, one / 4}
		a, b, c := r[i%5], r[(i/5)%5], r[(i/3+2)%5]
		out = append(out, vec.Vec{span.Of(m[0]-a, m[0]+b), span.Of(m[1]-b, m[1]+c), span.Of(m[2]-c, m[2]+a)})
	}
	return append(out, vec.Vec{span.Of(-2*one, 2*one), at(0), at(0)}, vec.Vec{span.Of(-one, one), span.Of(-one, one), span.Of(-one, one)},
		vec.Vec{at(0), span.Of(-2*one, 2*one+1), at(0)})
}

// matrices are turns, and matrices that are none: some with places that are rounded, wide, or too great.
func matrices() []Rot {
	out := []Rot{
		Id(), lines, whole([9]int64{1, 2, 3, 4, 5, 6, 7, 8, 10}), whole([9]int64{2, -7, 1, 0, 3, -5, 11, 4, -6}), whole([9]int64{1000, 1, 0, 0, 2, 0, -3, 0, 2047}),
		{vec.Of(1, 2, 3), vec.Of(-4, 5*one+1, 6), vec.Of(7, -8, 9*one-5)},
		{vec.Of(most, 1, -1), vec.Of(one, -most, 1), vec.Of(one, one, one)},
		{{span.Of(-1, 1), span.Of(0, one), span.Of(-9, 9)}, {span.Of(1, 4), span.Of(-3*one, 2*one), at(7)}, {span.Of(-one, -one/3), at(0), span.Of(one-1, one+1)}},
		{{line, at(0), at(one)}, {at(3), span.Of(-most, most), at(0)}, {at(0), at(one), line}},
	}
	for i, w := range wide() {
		if i%7 == 0 {
			out = append(out, Exp(w))
		}
	}
	return out
}

func vectors() []vec.Vec {
	out := []vec.Vec{
		vec.Of(0, 0, 0), vec.Of(1, 2, 3), vec.Of(one, -2*one, 5*one), vec.Of(most, 1, -most), vec.Of(7, -one/3, 47453133),
		{span.Of(-1, 1), span.Of(-one, 2*one), span.Of(one/3, one/2)}, {line, at(0), at(1)}, {at(0), span.Of(-most, most), at(1)}, {at(one), at(one), line},
	}
	for i, w := range wide() {
		if i%5 == 0 {
			out = append(out, w)
		}
	}
	return out
}

func want[T comparable](t *testing.T, what string, of any, got, want T) {
	t.Helper()
	if got != want {
		t.Errorf("%s of %v: %v, not %v", what, of, got, want)
	}
}

// The document's examples.
func TestExamples(t *testing.T) {
	want(t, "Exp", "nothing", Exp(vec.Of(0, 0, 0)), Id())
	w := vec.Of(0, 0, one)
	want(t, "the first row", w, Exp(w)[0], vec.Vec{{Lo: 566548, Hi: 566549}, {Lo: -882347, Hi: -882346}, {}})
	w = vec.Of(0, 0, 3*one)
	want(t, "A", w, kern.A(w.Norm2()), line)
	want(t, "B", w, kern.B(w.Norm2()), line)
	want(t, "Exp", w, Exp(w), lines)
}

// F1: One on the diagonal, 0 elsewhere.
func TestId(t *testing.T) {
	i, o := span.Span{Lo: one, Hi: one}, span.Span{}
	want(t, "Id", "nothing", Id(), Rot{{i, o, o}, {o, i, o}, {o, o, i}})
}

// F1: rows for columns; spans stay as they are, those that may not be too.
func TestTurned(t *testing.T) {
	a, b, c, d, e, f := at(1), span.Of(-2, 2), line, at(4), span.Of(5, 55), at(-most)
	g, h, i := span.Span{Lo: 3, Hi: 1}, span.Span{Lo: 1, Hi: 2, All: true}, span.Span{Hi: math.MaxInt64}
	r := Rot{{a, b, c}, {d, e, f}, {g, h, i}}
	want(t, "Turned", r, r.Turned(), Rot{{a, d, g}, {b, e, h}, {c, f, i}})
	want(t, "Turned twice", r, r.Turned().Turned(), r)
	want(t, "Turned", Id(), Id().Turned(), Id())
}

// F1: each row in the other one's; a single place that is not is enough.
func TestIn(t *testing.T) {
	in, out := span.Of(-5, 5), span.Of(-5, 6)
	r := Rot{{in, in, in}, {in, in, in}, {in, in, in}}
	want(t, "In", r, r.In(r), true)
	want(t, "In", r, r.In(lines), true)
	want(t, "In", lines, lines.In(r), false)
	want(t, "In", lines, lines.In(lines), true)
	want(t, "In", Id(), Id().In(r), false)
	for i := range r {
		for j := range r[i] {
			q := r
			q[i][j] = out
			want(t, "In", q, q.In(r), false)
			want(t, "In", r, r.In(q), true)
			q[i][j] = span.Of(0, 4)
			want(t, "In", q, q.In(r), true)
			want(t, "In", r, r.In(q), false)
			q[i][j] = line
			want(t, "In", q, q.In(r), false)
			want(t, "In", r, r.In(q), true)
			q[i][j] = span.Span{Lo: 1, Hi: 0}
			want(t, "In", q, q.In(r), false)
			want(t, "In", r, r.In(q), true)
			want(t, "In", q, q.In(lines), true)
		}
	}
}

// F1: the greatest one of the Rads, wherever it stands.
func TestRad(t *testing.T) {
	want(t, "Rad", Id(), Id().Rad(), 0)
	want(t, "Rad", lines, lines.Rad(), most)
	for i := range lines {
		for j := range lines[i] {
			r := Rot{{at(one), span.Of(0, 2), at(5)}, {at(-most), at(most), span.Of(-1, 1)}, {at(1), at(2), span.Of(3, 5)}}
			r[i][j] = span.Of(1, 4)
			want(t, "Rad", r, r.Rad(), 2)
			r[i][j] = span.Of(-100, 101)
			want(t, "Rad", r, r.Rad(), 101)
			r[i][j] = line
			want(t, "Rad", r, r.Rad(), most)
			r[i][j] = span.Span{Lo: 2, Hi: 1}
			want(t, "Rad", r, r.Rad(), most)
		}
	}
}

// inner is the sum of three products, written out.
func inner(a, b, c, x, y, z span.Span) span.Span {
	return a.Mul(x).Add(b.Mul(y)).Add(c.Mul(z))
}

// F2: the rows' inner products.
func TestApply(t *testing.T) {
	r := whole([9]int64{1, 2, 3, 4, 5, 6, 7, 8, 10})
	want(t, "Apply", r, r.Apply(vec.Of(1, 10, -100)), vec.Of(-279, -546, -913))
	for _, r := range matrices() {
		for _, v := range vectors() {
			want(t, "Apply", r, r.Apply(v), vec.Vec{
				inner(r[0][0], r[0][1], r[0][2], v[0], v[1], v[2]),
				inner(r[1][0], r[1][1], r[1][2], v[0], v[1], v[2]),
				inner(r[2][0], r[2][1], r[2][2], v[0], v[1], v[2]),
			})
		}
	}
	for _, v := range vectors() {
		if v[0] != line && v[1] != line && v[2] != line {
			want(t, "Apply of Id", v, Id().Apply(v), v)
		}
	}
}

// F2: the inner product of each of r's rows with each of q's columns.
func TestMul(t *testing.T) {
	r, q := whole([9]int64{1, 2, 3, 4, 5, 6, 7, 8, 10}), whole([9]int64{2, -7, 1, 0, 3, -5, 11, 4, -6})
	want(t, "Mul", r, r.Mul(q), whole([9]int64{35, 11, -27, 74, 11, -57, 124, 15, -93}))
	want(t, "Mul", q, q.Mul(r), whole([9]int64{-19, -23, -26, -23, -25, -32, -15, -6, -3}))
	want(t, "Mul", r, r.Mul(Id()), r)
	want(t, "Mul", r, Id().Mul(r), r)
	for _, r := range matrices() {
		for _, q := range matrices() {
			var product Rot
			for i := range product {
				for j := range product[i] {
					product[i][j] = inner(r[i][0], r[i][1], r[i][2], q[0][j], q[1][j], q[2][j])
				}
			}
			want(t, "Mul", r, r.Mul(q), product)
		}
	}
}

// F2: sums are made from the first to the third product: what leaves the fixed numbers on the way does not come back.
func TestAddsInOrder(t *testing.T) {
	ones := vec.Of(one, one, one)
	r := Rot{vec.Of(most, 1, -1), vec.Of(most, -1, 1), vec.Of(-1, 1, most)}
	want(t, "Apply", r, r.Apply(ones), vec.Vec{line, at(most), at(most)})
	want(t, "Mul", r, r.Mul(Rot{ones, ones, ones}), Rot{{line, line, line}, vec.Of(most, most, most), vec.Of(most, most, most)})
	want(t, "Mul", r, Rot{ones, ones, ones}.Mul(r.Turned()), Rot{{line, at(most), at(most)}, {line, at(most), at(most)}, {line, at(most), at(most)}})
}

// F2: the first row's inner product with the outer product of the two others.
func TestDet(t *testing.T) {
	want(t, "Det", Id(), Id().Det(), at(one))
	want(t, "Det", lines, lines.Det(), line)
	for n, d := range map[[9]int64]int64{
		{1, 2, 3, 4, 5, 6, 7, 8, 10}:    -3,
		{2, -7, 1, 0, 3, -5, 11, 4, -6}: 356,
		{0, 1, 0, 1, 0, 0, 0, 0, 1}:     -1,
		{1, 2, 3, 2, 4, 6, 5, 1, 7}:     0,
		{0, 0, 2, 3, 0, 0, 0, 5, 0}:     30,
		{1, 0, 0, 0, 100, 0, 0, 0, -20}: -2000,
	} {
		want(t, "Det", n, whole(n).Det(), at(d*one))
	}
	for _, r := range matrices() {
		x, y, z := r[0], r[1], r[2]
		want(t, "Det", r, r.Det(), inner(x[0], x[1], x[2],
			y[1].Mul(z[2]).Sub(y[2].Mul(z[1])), y[2].Mul(z[0]).Sub(y[0].Mul(z[2])), y[0].Mul(z[1]).Sub(y[1].Mul(z[0]))))
	}
}

// F2: which row stands first is to be seen where numbers are rounded, or too great on the way.
func TestDetByTheFirstRow(t *testing.T) {
	r := Rot{vec.Of(1, 0, 0), vec.Of(0, most, 0), vec.Of(0, 0, 2*one)}
	want(t, "Det", r, r.Det(), line)
	r = Rot{vec.Of(0, 0, 2*one), vec.Of(1, 0, 0), vec.Of(0, most, 0)}
	want(t, "Det", r, r.Det(), span.Of(4094, 4096))
	r = Rot{vec.Of(most, 0, 0), vec.Of(0, 1, 0), vec.Of(0, 0, 1)}
	want(t, "Det", r, r.Det(), span.Of(0, 2048))
}

// written is Exp as F3's words say it, place by place.
func written(w vec.Vec) Rot {
	x, y, z := w[0], w[1], w[2]
	s := x.Sqr().Add(y.Sqr()).Add(z.Sqr())
	a, b := kern.A(s), kern.B(s)
	place := func(i int64, k, l span.Span) span.Span { return at(i).Add(a.Mul(k)).Add(b.Mul(l)) }
	o := at(0)
	return Rot{
		{place(one, o, y.Sqr().Add(z.Sqr()).Neg()), place(0, z.Neg(), x.Mul(y)), place(0, y, x.Mul(z))},
		{place(0, z.Neg().Neg(), x.Mul(y)), place(one, o, x.Sqr().Add(z.Sqr()).Neg()), place(0, x.Neg(), y.Mul(z))},
		{place(0, y.Neg(), x.Mul(z)), place(0, x.Neg().Neg(), y.Mul(z)), place(one, o, x.Sqr().Add(y.Sqr()).Neg())},
	}
}

// F3: each place is what the words say.
func TestExp(t *testing.T) {
	for _, w := range append(points(), wide()...) {
		want(t, "Exp", w, Exp(w), written(w))
	}
	sine, minus, cosine := span.Of(882346, 882347), span.Of(-882347, -882346), span.Of(566548, 566549)
	i, o := at(one), at(0)
	want(t, "Exp", "the first axis", Exp(vec.Of(one, 0, 0)), Rot{{i, o, o}, {o, cosine, minus}, {o, sine, cosine}})
	want(t, "Exp", "the second axis", Exp(vec.Of(0, one, 0)), Rot{{cosine, o, sine}, {o, i, o}, {minus, o, cosine}})
	want(t, "Exp", "the third axis", Exp(vec.Of(0, 0, one)), Rot{{cosine, minus, o}, {sine, cosine, o}, {o, o, i}})
}

// F3: a square on the diagonal is that of one number, not a product of two.
func TestExpOfSquares(t *testing.T) {
	w := vec.Vec{span.Of(-one, one), at(0), at(0)}
	r := Exp(w)
	want(t, "the place (1, 1)", w, r[1][1], at(one).Sub(kern.B(span.Of(0, one)).Mul(span.Of(0, one))))
	if r[1][1].Hi != one || r[0][0] != at(one) {
		t.Error(r)
	}
}

// F3: a vector that may be longer than 2, by however little, turns to the whole line everywhere; one of length 2 does not.
func TestExpAtItsEdge(t *testing.T) {
	far := []vec.Vec{
		vec.Of(2*one+1, 0, 0), vec.Of(0, -2*one-1, 0), vec.Of(0, 0, 2*one+1), vec.Of(2*one, 1, 0), vec.Of(0, 1, 2*one), vec.Of(one, one, 3*one/2),
		{span.Of(0, 2*one+1), at(0), at(0)}, {at(0), span.Of(-2*one-1, one), at(0)}, {at(0), at(0), span.Of(-most, most)},
		{span.Of(0, 2*one), span.Of(0, one), at(0)}, vec.Of(most, most, most), vec.Of(0, -most, 0), vec.Of(0, 0, 3*one),
	}
	for _, w := range far {
		want(t, "Exp", w, Exp(w), lines)
	}
	for _, w := range []vec.Vec{
		vec.Of(2*one, 0, 0), vec.Of(0, -2*one, 0), vec.Of(0, 0, 2*one), {span.Of(-2*one, 2*one), at(0), at(0)},
		vec.Of(one, one, one), vec.Of(2*one-1, 1, 1), {span.Of(-one, one), span.Of(-one, one), span.Of(-one, one)},
	} {
		for i, row := range Exp(w) {
			for j, x := range row {
				if x.All {
					t.Errorf("%v: the whole line at %d, %d", w, i, j)
				}
			}
		}
	}
}

// What may not be counts as the whole line, at every place and in every call.
func TestWhatMayNotBeIsTheLine(t *testing.T) {
	v := vec.Vec{span.Of(-5, 5), at(3 * one), span.Of(0, one)}
	q := whole([9]int64{1, 2, 3, 4, 5, 6, 7, 8, 10})
	for _, x := range append(wrong(), line) {
		for i := range q {
			w, good := vec.Of(1, 2, 3), vec.Of(1, 2, 3)
			w[i], good[i] = x, line
			want(t, "Exp", w, Exp(w), lines)
			want(t, "Apply", w, q.Apply(w), q.Apply(good))
			for j := range q[i] {
				r, s := q, q
				r[i][j], s[i][j] = x, line
				want(t, "Apply", r, r.Apply(v), s.Apply(v))
				want(t, "Apply", r, r.Apply(v)[i], line)
				want(t, "Mul", r, r.Mul(q), s.Mul(q))
				want(t, "Mul", r, q.Mul(r), q.Mul(s))
				want(t, "Mul", r, r.Mul(q)[i], vec.Vec{line, line, line})
				want(t, "Mul", r, q.Mul(r).Turned()[j], vec.Vec{line, line, line})
				want(t, "Det", r, r.Det(), line)
				want(t, "Rad", r, r.Rad(), most)
				want(t, "In", r, q.In(r), true)
				want(t, "In", r, r.In(q), false)
				want(t, "In", r, r.In(s), true)
				want(t, "Turned", r, r.Turned()[j][i], x)
			}
		}
	}
}

// trueTurn is the turn about a vector of whole numbers over One, times One at each place: exact but for what is left
// out of the two sums, far less than a step.
func trueTurn(m [3]int64) [3][3]*big.Rat {
	var w [3]*big.Rat
	s := new(big.Rat)
	for i, n := range m {
		w[i] = big.NewRat(n, one)
		s.Add(s, new(big.Rat).Mul(w[i], w[i]))
	}
	a, b := sums(s)
	signs := [3][3]int64{{0, -1, 1}, {1, 0, -1}, {-1, 1, 0}}
	var out [3][3]*big.Rat
	for i := range out {
		for j := range out[i] {
			x := new(big.Rat).Mul(w[i], w[j])
			if i == j {
				x.Sub(x, s)
			}
			x.Mul(x, b)
			if i == j {
				x.Add(x, big.NewRat(1, 1))
			} else {
				k := new(big.Rat).Mul(a, w[3-i-j])
				x.Add(x, k.Mul(k, big.NewRat(signs[i][j], 1)))
			}
			out[i][j] = x.Mul(x, big.NewRat(one, 1))
		}
	}
	return out
}

// sums are sin t / t and (1 - cos t) / t^2 of t^2 = s, by 16 terms of each.
func sums(s *big.Rat) (a, b *big.Rat) {
	a, b = new(big.Rat), new(big.Rat)
	power := big.NewRat(1, 1)
	for k := int64(0); k < 16; k++ {
		odd, even := new(big.Int).MulRange(1, 2*k+1), new(big.Int).MulRange(1, 2*k+2)
		a.Add(a, new(big.Rat).Quo(power, new(big.Rat).SetInt(odd)))
		b.Add(b, new(big.Rat).Quo(power, new(big.Rat).SetInt(even)))
		power.Mul(power, new(big.Rat).Neg(s))
	}
	return a, b
}

// hasTurn tells whether r has what is told in steps at each place, with a margin for what was left out.
func hasTurn(r Rot, steps [3][3]*big.Rat) bool {
	margin := big.NewRat(1, 1000000)
	for i := range steps {
		for j, n := range steps[i] {
			x := r[i][j]
			lo := new(big.Rat).Sub(big.NewRat(x.Lo, 1), margin)
			hi := new(big.Rat).Add(big.NewRat(x.Hi, 1), margin)
			if !x.All && (n.Cmp(lo) < 0 || n.Cmp(hi) > 0) {
				return false
			}
		}
	}
	return true
}

// corners are the middle of a vector of spans, and all its corners.
func corners(w vec.Vec) [][3]int64 {
	out := [][3]int64{w.Mid()}
	for _, x := range [2]int64{w[0].Lo, w[0].Hi} {
		for _, y := range [2]int64{w[1].Lo, w[1].Hi} {
			for _, z := range [2]int64{w[2].Lo, w[2].Hi} {
				out = append(out, [3]int64{x, y, z})
			}
		}
	}
	return out
}

// F4: the true turn about each vector that w has is in Exp(w).
func TestTrueTurnsAreIn(t *testing.T) {
	for _, w := range points() {
		if r := Exp(w); !hasTurn(r, trueTurn(w.Mid())) {
			t.Errorf("%v: %v", w, r)
		}
	}
	for _, w := range wide() {
		r := Exp(w)
		for _, m := range corners(w) {
			if !hasTurn(r, trueTurn(m)) {
				t.Errorf("%v in %v: %v", m, w, r)
			}
		}
	}
	// What is held against the turns is a turn itself: a quarter, about the third axis.
	quarter := trueTurn([3]int64{0, 0, 1647099})
	f, _ := quarter[1][0].Float64()
	g, _ := quarter[0][0].Float64()
	if math.Abs(f-float64(one)) > 1e-5 || math.Abs(g) > 1 {
		t.Error(f, g)
	}
}

// F4: lengths are left: a turn and its turned one make Id; the determinant has 1; the vector itself is not turned.
func TestLeavesLengths(t *testing.T) {
	for _, w := range append(points(), wide()...) {
		r := Exp(w)
		want(t, "Id In", w, Id().In(r.Mul(r.Turned())), true)
		want(t, "Id In", w, Id().In(r.Turned().Mul(r)), true)
		want(t, "Det", w, r.Det().Has(one), true)
	}
	for _, w := range points() {
		r := Exp(w)
		want(t, "In what is turned", w, w.In(r.Apply(w)), true)
		if r.Rad() > 6 || r.Det().Rad() > 40 {
			t.Errorf("%v: within %d, %v", w, r.Rad(), r.Det())
		}
		for _, v := range points()[:20] {
			if _, ok := r.Apply(v).Norm2().Meet(v.Norm2()); !ok {
				t.Errorf("%v about %v: %v", v, w, r.Apply(v))
			}
		}
	}
}

// F4: about nothing nothing is turned, and about what is turned the other way the turned one is.
func TestTurnsBack(t *testing.T) {
	want(t, "Exp", "nothing", Exp(vec.Vec{}), Id())
	for _, w := range append(points(), wide()...) {
		want(t, "Exp of the negative", w, Exp(vec.Vec{w[0].Neg(), w[1].Neg(), w[2].Neg()}), Exp(w).Turned())
	}
}

// F4: turns about one axis, one behind the other, are the turn by both angles.
func TestTurnsAddUp(t *testing.T) {
	u := vec.Of(one/2, -one/4, one)
	for _, n := range []int64{one, one / 2, -one / 4, -one, one / 8} {
		w := u.Scale(at(n))
		both, sum := Exp(u).Mul(Exp(w)), Exp(u.Add(w))
		for i := range both {
			for j, x := range both[i] {
				if _, ok := x.Meet(sum[i][j]); !ok && sum.Rad() != most {
					t.Errorf("%d, at %d, %d: %v, %v", n, i, j, x, sum[i][j])
				}
			}
		}
	}
	// One behind the other is what the product does: the second one is turned by first.
	r, q, v := Exp(vec.Of(one, 0, 0)), Exp(vec.Of(0, one, 0)), vec.Of(one, 2*one, 3*one)
	product, steps := r.Mul(q).Apply(v), r.Apply(q.Apply(v))
	for i, x := range product {
		if _, ok := x.Meet(steps[i]); !ok {
			t.Errorf("%v, %v", product, steps)
		}
	}
}

// F4: of what is in vectors and matrices comes what is in that of these.
func TestWhatIsInStaysIn(t *testing.T) {
	for _, w := range wide() {
		for _, m := range corners(w) {
			v := vec.Of(m[0], m[1], m[2])
			want(t, "Exp In", w, Exp(v).In(Exp(w)), true)
		}
	}
	all := matrices()
	for i, r := range all {
		narrow := made(func(i, j int) span.Span { return at(r[i][j].Mid()) })
		want(t, "In", r, narrow.In(r), true)
		want(t, "Det In", r, narrow.Det().In(r.Det()), true)
		want(t, "Turned In", r, narrow.Turned().In(r.Turned()), true)
		q := all[(i*5+3)%len(all)]
		want(t, "Mul In", r, narrow.Mul(q).In(r.Mul(q)), true)
		want(t, "Mul In", r, q.Mul(narrow).In(q.Mul(r)), true)
		for _, v := range vectors() {
			m := v.Mid()
			want(t, "Apply In", r, narrow.Apply(vec.Of(m[0], m[1], m[2])).In(r.Apply(v)), true)
		}
	}
}

// What is handed in stays as it is, and the same comes of the same.
func TestHandedInStays(t *testing.T) {
	r, q, v := Exp(vec.Of(1, one, 3)), whole([9]int64{1, 2, 3, 4, 5, 6, 7, 8, 10}), vec.Of(one, 2, 3)
	r0, q0, v0 := r, q, v
	first := r.Mul(q)
	r.Turned()
	r.Apply(v)
	r.Det()
	r.In(q)
	Exp(v)
	if r != r0 || q != q0 || v != v0 || r.Mul(q) != first {
		t.Error(r, q, v)
	}
}
