package quad

import (
	"math"
	"math/big"
	"slices"
	"strings"
	"testing"

	"gimbal/api"
	"gimbal/lin"
	"gimbal/long"
)

// quad is the function of numbers that must be those of one.
func quad(t *testing.T, rows [][]int64, q []int64, c int64) Quad {
	t.Helper()
	f, e := Of(rows, q, c)
	if e != api.OK {
		t.Fatalf("Of(%v, %v, %v): %v", rows, q, c, e)
	}
	return f
}

// list is a list of small numbers.
func list(n ...int64) []long.Int {
	return made(len(n), func(i int) long.Int { return long.Of(n[i]) })
}

// read is the number that a text tells, which must be one.
func read(t *testing.T, s string) long.Int {
	t.Helper()
	x, e := long.Parse(s)
	if e != api.OK {
		t.Fatal(s, e)
	}
	return x
}

// toBig is x as a number of the library.
func toBig(x long.Int) *big.Int {
	b, _ := new(big.Int).SetString(x.String(), 10)
	return b
}

// text tells a function, or a list, as a text.
func text(f Quad) string {
	rows := made(len(f.P), func(i int) string { return listText(f.P[i]) })
	return "P (" + strings.Join(rows, "; ") + ") Q (" + listText(f.Q) + ") C " + f.C.String()
}

func listText(l []long.Int) string {
	return strings.Join(made(len(l), func(i int) string { return l[i].String() }), ", ")
}

func wantInt(t *testing.T, what string, f Quad, got, want long.Int) {
	t.Helper()
	if got.Cmp(want) != 0 {
		t.Errorf("%s of %s: %v, not %v", what, text(f), got, want)
	}
}

func wantBig(t *testing.T, what string, f Quad, got long.Int, want *big.Int) {
	t.Helper()
	if toBig(got).Cmp(want) != 0 {
		t.Errorf("%s of %s: %v, not %v", what, text(f), got, want)
	}
}

func wantList(t *testing.T, what string, f Quad, got, want []long.Int) {
	t.Helper()
	if listText(got) != listText(want) || len(got) != len(want) {
		t.Errorf("%s of %s: %s, not %s", what, text(f), listText(got), listText(want))
	}
}

func wantQuad(t *testing.T, what string, f, got, want Quad) {
	t.Helper()
	if text(got) != text(want) || len(got.P) != len(want.P) || len(got.Q) != len(want.Q) {
		t.Errorf("%s of %s: %s, not %s", what, text(f), text(got), text(want))
	}
}

func wantError(t *testing.T, what string, of any, got, want api.Errno) {
	t.Helper()
	if got != want {
		t.Errorf("%s of %v: %v, not %v", what, of, got, want)
	}
}

// wantNothing holds what stands beside an error against the zero value.
func wantNothing(t *testing.T, what string, f Quad, others ...long.Int) {
	t.Helper()
	if len(f.P) != 0 || len(f.Q) != 0 || f.C.Sign() != 0 {
		t.Errorf("%s: %s beside an error", what, text(f))
	}
	for _, n := range others {
		if n.Sign() != 0 {
			t.Errorf("%s: %v beside an error", what, n)
		}
	}
}

// source tells numbers that look like any, the same in each run.
type source uint64

func (s *source) below(n int64) int64 {
	*s ^= *s << 13
	*s ^= *s >> 7
	*s ^= *s << 17
	return int64(uint64(*s)>>8) % n
}

// number is one from -n to n, or, of n 0, an int64 of any size.
func (s *source) number(n int64) long.Int {
	if n == 0 {
		return long.Of((s.below(1<<55)<<9 ^ s.below(1<<55)) >> s.below(60))
	}
	return long.Of(s.below(2*n+1) - n)
}

func (s *source) list(n int, most int64) []long.Int {
	return made(n, func(int) long.Int { return s.number(most) })
}

func (s *source) matrix(n int, most int64) lin.Mat {
	return made(n, func(int) []long.Int { return s.list(n, most) })
}

// of is a function of this P.
func (s *source) of(p lin.Mat, most int64) Quad {
	return Quad{P: p, Q: s.list(len(p), most), C: s.number(most)}
}

// square is the matrix of what at tells of each row and column.
func square(n int, at func(i, j int) long.Int) lin.Mat {
	return made(n, func(i int) []long.Int { return made(n, func(j int) long.Int { return at(i, j) }) })
}

// raised is a with so much more on its diagonal, from this place on.
func raised(a lin.Mat, from int, more int64) lin.Mat {
	return square(len(a), func(i, j int) long.Int {
		if i == j && i >= from {
			return a[i][j].Add(long.Of(more))
		}
		return a[i][j]
	})
}

// quads are functions of all orders: definite ones, flat ones, such as go down somewhere, such of which the first
// rows alone are definite; with small numbers and great ones.
func quads() []Quad {
	s := source(88172645463325252)
	var out []Quad
	for n := range api.MaxOrder + 1 {
		for _, most := range []int64{1, 3, 1000, 0} {
			a := s.matrix(n, most)
			both := square(n, func(i, j int) long.Int { return a[i][j].Add(a[j][i]) })
			product := a.Turned().Mul(a)
			out = append(out, s.of(product, most), s.of(raised(product, 0, 1), most), s.of(both, most))
			out = append(out, s.of(raised(raised(product, 0, 2), n-1, -1<<40), most))
		}
		a := s.matrix(n, 2)
		if n > 0 {
			a[n/2] = make([]long.Int, n)
		}
		out = append(out, s.of(a.Turned().Mul(a), 9), s.of(a.Mul(a.Turned()), 9), s.of(square(n, nothing), 5))
	}
	return out
}

func nothing(i, j int) long.Int { return long.Int{} }

// place is what stands at a place of P, with Q beside it and below it, and C in the corner.
func place(f Quad, i, j int) *big.Int {
	n := len(f.P)
	switch {
	case i < n && j < n:
		return toBig(f.P[i][j])
	case i < n:
		return toBig(f.Q[i])
	case j < n:
		return toBig(f.Q[j])
	}
	return toBig(f.C)
}

// trueDet is the determinant of what at tells, by fractions, a way of its own.
func trueDet(n int, at func(i, j int) *big.Int) *big.Int {
	m := made(n, func(i int) []*big.Rat {
		return made(n, func(j int) *big.Rat { return new(big.Rat).SetInt(at(i, j)) })
	})
	det := big.NewRat(1, 1)
	for k := range n {
		p := slices.IndexFunc(m[k:], func(row []*big.Rat) bool { return row[k].Sign() != 0 })
		if p < 0 {
			return new(big.Int)
		}
		if p > 0 {
			m[k], m[k+p] = m[k+p], m[k]
			det.Neg(det)
		}
		det.Mul(det, m[k][k])
		for i := k + 1; i < n; i++ {
			times := new(big.Rat).Quo(m[i][k], m[k][k])
			for j := k; j < n; j++ {
				m[i][j].Sub(m[i][j], new(big.Rat).Mul(times, m[k][j]))
			}
		}
	}
	return det.Num()
}

// minor is the determinant of the first k rows and columns of f's P.
func minor(f Quad, k int) *big.Int {
	return trueDet(k, func(i, j int) *big.Int { return place(f, i, j) })
}

// bentUp tells how many rows and columns at the head of f's P are definite: as many as all leading minors up to
// there are above 0 of.
func bentUp(f Quad) int {
	for k := range f.P {
		if minor(f, k+1).Sign() <= 0 {
			return k
		}
	}
	return len(f.P)
}

// valueOver is f's value at x / den, times the square of den, term by term.
func valueOver(f Quad, x []long.Int, den long.Int) *big.Int {
	d, sum := toBig(den), new(big.Int)
	for i := range f.P {
		for j := range f.P {
			sum.Add(sum, new(big.Int).Mul(toBig(f.P[i][j]), new(big.Int).Mul(toBig(x[i]), toBig(x[j]))))
		}
		twice := new(big.Int).Mul(big.NewInt(2), new(big.Int).Mul(toBig(f.Q[i]), toBig(x[i])))
		sum.Sub(sum, twice.Mul(twice, d))
	}
	return sum.Add(sum, new(big.Int).Mul(new(big.Int).Mul(d, d), toBig(f.C)))
}

// rowsOf are n rows that are their own columns, each pair of places with a number of its own.
func rowsOf(n int) [][]int64 {
	return made(n, func(i int) []int64 {
		return made(n, func(j int) int64 { return int64(100*min(i, j) + max(i, j) + 1) })
	})
}

// upTo are the numbers 1 to n.
func upTo(n int) []int64 {
	return made(n, func(i int) int64 { return int64(i + 1) })
}

// The document's examples.
func TestExamples(t *testing.T) {
	f := quad(t, [][]int64{{2, 1}, {1, 3}}, []int64{1, 2}, 4)
	wantInt(t, "Value", f, f.Value(list(1, 1)), long.Of(5))
	wantList(t, "Slope", f, f.Slope(list(0, 0)), list(-1, -2))
	num, den, top, e := f.Least()
	wantList(t, "Least", f, num, list(1, 3))
	wantInt(t, "Least's den", f, den, long.Of(5))
	wantInt(t, "Least's top", f, top, long.Of(13))
	wantError(t, "Least", text(f), e, api.OK)
	g, e := f.With(list(1))
	wantQuad(t, "With(1)", f, g, quad(t, [][]int64{{2}}, []int64{0}, 3))
	wantError(t, "With", text(f), e, api.OK)
	g, scale, e := f.Without(1)
	wantQuad(t, "Without(1)", f, g, quad(t, [][]int64{{5}}, []int64{3}, 7))
	wantInt(t, "Without's scale", f, scale, long.Of(2))
	wantError(t, "Without", text(f), e, api.OK)
}

// H1: a function of each order to 12.
func TestOf(t *testing.T) {
	for n := range api.MaxOrder + 1 {
		rows, q := rowsOf(n), upTo(n)
		f := quad(t, rows, q, -7)
		if len(f.P) != n || len(f.Q) != n {
			t.Fatal(n, text(f))
		}
		for i := range n {
			wantList(t, "a row", f, f.P[i], list(rows[i]...))
		}
		wantList(t, "Q", f, f.Q, list(q...))
		wantInt(t, "C", f, f.C, long.Of(-7))
	}
	f := quad(t, [][]int64{{math.MinInt64, math.MaxInt64}, {math.MaxInt64, -1}}, []int64{math.MaxInt64, math.MinInt64}, math.MinInt64)
	least, most := read(t, "-9223372036854775808"), read(t, "9223372036854775807")
	wantQuad(t, "Of", f, f, Quad{P: lin.Mat{{least, most}, {most, long.Of(-1)}}, Q: []long.Int{most, least}, C: least})
}

// R4, H1: of order 0 there is a number alone, whether lists are nil or empty.
func TestOfNothing(t *testing.T) {
	for _, rows := range [][][]int64{nil, {}} {
		for _, q := range [][]int64{nil, {}} {
			f := quad(t, rows, q, 9)
			wantQuad(t, "Of", f, f, Quad{C: long.Of(9)})
		}
	}
}

// H1: lin.Of's errors, ahead of what is wrong beside.
func TestOfWrongRows(t *testing.T) {
	for _, q := range [][]int64{nil, {}, {1}, upTo(12), upTo(13), upTo(14)} {
		for _, rows := range [][][]int64{rowsOf(13), rowsOf(40), make([][]int64, 13), append(rowsOf(12), nil)} {
			f, e := Of(rows, q, 3)
			wantError(t, "Of", rows, e, api.ErrLong)
			wantNothing(t, "Of", f)
		}
	}
	for n := 1; n <= api.MaxOrder; n++ {
		for i := range n {
			for _, length := range []int{0, n - 1, n + 1, 13} {
				if length == n {
					continue
				}
				rows := rowsOf(n)
				rows[i] = make([]int64, length)
				f, e := Of(rows, upTo(n), 3)
				wantError(t, "Of", rows, e, api.ErrArg)
				wantNothing(t, "Of", f)
			}
		}
	}
}

// H1: a q that is too short or too long.
func TestOfWrongNumbers(t *testing.T) {
	for n := range api.MaxOrder + 1 {
		for _, length := range []int{0, n - 1, n + 1, 2*n + 1, 13} {
			if length == n || length < 0 {
				continue
			}
			f, e := Of(rowsOf(n), upTo(length), 3)
			wantError(t, "Of", [2]int{n, length}, e, api.ErrArg)
			wantNothing(t, "Of", f)
		}
	}
}

// H1: a single place that is not as its turned one is enough.
func TestOfNotItsOwnTurned(t *testing.T) {
	for n := 2; n <= api.MaxOrder; n++ {
		for i := range n {
			for j := range n {
				rows := rowsOf(n)
				rows[i][j]++
				f, e := Of(rows, upTo(n), 3)
				if i == j {
					wantError(t, "Of", rows, e, api.OK)
					continue
				}
				wantError(t, "Of", rows, e, api.ErrArg)
				wantNothing(t, "Of", f)
			}
		}
	}
	_, e := Of([][]int64{{5, 1}, {-1, 5}}, upTo(2), 3)
	wantError(t, "Of", "contraries", e, api.ErrArg)
}

// H1: the value, term by term; P x - Q.
func TestValueAndSlope(t *testing.T) {
	s := source(362436069)
	for _, f := range quads() {
		for _, most := range []int64{1, 9, 0} {
			x := s.list(len(f.P), most)
			wantBig(t, "Value", f, f.Value(x), valueOver(f, x, long.Of(1)))
			slope := f.Slope(x)
			if len(slope) != len(x) {
				t.Fatal(len(slope), len(x))
			}
			for i, row := range f.P {
				sum := new(big.Int).Neg(toBig(f.Q[i]))
				for j, p := range row {
					sum.Add(sum, new(big.Int).Mul(toBig(p), toBig(x[j])))
				}
				wantBig(t, "Slope", f, slope[i], sum)
			}
		}
		wantInt(t, "Value at noughts", f, f.Value(make([]long.Int, len(f.P))), f.C)
	}
	f := Quad{C: long.Of(-3)}
	for _, x := range [][]long.Int{nil, {}} {
		wantInt(t, "Value", f, f.Value(x), long.Of(-3))
		wantList(t, "Slope", f, f.Slope(x), nil)
	}
}

// H1: Slope is half of how steep the function is: a step of 1 ahead and one back differ by four times it.
func TestSlopeIsHalfOfSteepness(t *testing.T) {
	s := source(521288629)
	for _, f := range quads() {
		x := s.list(len(f.P), 50)
		for i, slope := range f.Slope(x) {
			ahead, back := slices.Clone(x), slices.Clone(x)
			ahead[i], back[i] = x[i].Add(long.Of(1)), x[i].Sub(long.Of(1))
			wantInt(t, "Slope", f, slope.Mul(long.Of(4)), f.Value(ahead).Sub(f.Value(back)))
		}
	}
}

// H1: the values of what is added are those of both together.
func TestAdd(t *testing.T) {
	s := source(123456789)
	all := quads()
	for _, f := range all {
		for _, g := range all {
			if len(f.P) != len(g.P) || s.below(8) != 0 {
				continue
			}
			both := f.Add(g)
			wantQuad(t, "Add", f, both, Quad{
				P: square(len(f.P), func(i, j int) long.Int { return f.P[i][j].Add(g.P[i][j]) }),
				Q: made(len(f.Q), func(i int) long.Int { return f.Q[i].Add(g.Q[i]) }),
				C: f.C.Add(g.C),
			})
			x := s.list(len(f.P), 0)
			wantInt(t, "Add's Value", f, both.Value(x), f.Value(x).Add(g.Value(x)))
			wantQuad(t, "Add turned", f, g.Add(f), both)
		}
	}
	one, two := Quad{C: long.Of(1)}, Quad{P: lin.Mat{}, Q: []long.Int{}, C: long.Of(2)}
	wantQuad(t, "Add", one, one.Add(two), Quad{C: long.Of(3)})
}

// Any number of functions are added at once.
func TestSum(t *testing.T) {
	f := quad(t, [][]int64{{2, 1}, {1, 3}}, []int64{1, 2}, 4)
	wantQuad(t, "sum of one", f, sum(f), f)
	wantQuad(t, "sum of four", f, sum(f, f, f, f), quad(t, [][]int64{{8, 4}, {4, 12}}, []int64{4, 8}, 16))
}

// H2: ErrFlat, if P is not definite; else what lin's Solve tells of P and Q, and the value there.
func TestLeast(t *testing.T) {
	known := [2]int{}
	for _, f := range quads() {
		num, den, top, e := f.Least()
		if bentUp(f) < len(f.P) {
			known[0]++
			wantError(t, "Least", text(f), e, api.ErrFlat)
			wantNothing(t, "Least", Quad{Q: num}, den, top)
			continue
		}
		known[1]++
		wantError(t, "Least", text(f), e, api.OK)
		solved, det, _ := f.P.Solve(f.Q)
		wantList(t, "Least's num", f, num, solved)
		wantInt(t, "Least's den", f, den, det)
		wantBig(t, "Least's den", f, den, minor(f, len(f.P)))
		wantBig(t, "Least's top", f, den.Mul(top), valueOver(f, num, den))
	}
	if known[0] < 50 || known[1] < 50 {
		t.Error("one sort is rare:", known)
	}
}

// H2: the edges: of order 0 a number is the least one; a P that is flat in one way, or goes down in one, has none.
func TestLeastEdges(t *testing.T) {
	for _, f := range []Quad{{C: long.Of(-6)}, {P: lin.Mat{}, Q: []long.Int{}, C: long.Of(-6)}} {
		num, den, top, e := f.Least()
		wantList(t, "Least", f, num, nil)
		wantInt(t, "Least's den", f, den, long.Of(1))
		wantInt(t, "Least's top", f, top, long.Of(-6))
		wantError(t, "Least", text(f), e, api.OK)
	}
	for _, rows := range [][][]int64{
		{{0}}, {{-1}}, {{1, 0}, {0, 0}}, {{0, 0}, {0, 1}}, {{1, 0}, {0, -1}}, {{-1, 0}, {0, -1}}, {{0, 1}, {1, 0}}, {{1, 2}, {2, 4}}, {{1, 2}, {2, 3}},
	} {
		for _, q := range [][]int64{make([]int64, len(rows)), upTo(len(rows))} {
			num, den, top, e := quad(t, rows, q, 5).Least()
			wantError(t, "Least", rows, e, api.ErrFlat)
			wantNothing(t, "Least", Quad{Q: num}, den, top)
		}
	}
	f := quad(t, [][]int64{{4}}, []int64{-2}, 0)
	num, den, top, _ := f.Least()
	wantList(t, "Least, not cut down,", f, num, list(-2))
	wantInt(t, "Least's den", f, den, long.Of(4))
	wantInt(t, "Least's top", f, top, long.Of(-4))
}

// H5: no value is less than the least one, and Slope is 0 there: e beyond, the function is higher by e's quadratic form.
func TestLeastIsLeast(t *testing.T) {
	s := source(69069)
	for _, f := range quads() {
		num, den, top, e := f.Least()
		if e != api.OK {
			continue
		}
		bent := f.P.Apply(num)
		for i := range bent {
			wantInt(t, "Slope at the least one", f, bent[i].Sub(den.Mul(f.Q[i])), long.Int{})
		}
		for _, most := range []int64{1, 2, 100, 0} {
			beyond := s.list(len(num), most)
			x := made(len(num), func(i int) long.Int { return num[i].Add(beyond[i]) })
			higher := new(big.Int).Sub(valueOver(f, x, den), toBig(den.Mul(top)))
			wantBig(t, "what lies above the least one", f, f.P.Quad(beyond), higher)
			if higher.Sign() < 0 || f.Value(x).Mul(den).Cmp(top) < 0 || f.Value(beyond).Mul(den).Cmp(top) < 0 {
				t.Errorf("%s is less than %v over %v", text(f), top, den)
			}
		}
	}
}

// H3: with the last numbers told the values are those of all numbers together.
func TestWith(t *testing.T) {
	s := source(987654321)
	for _, f := range quads() {
		for told := range len(f.P) + 1 {
			y, k := s.list(told, 0), len(f.P)-told
			g, e := f.With(y)
			wantError(t, "With", told, e, api.OK)
			if len(g.P) != k || len(g.Q) != k {
				t.Fatal(k, text(g))
			}
			for i := range k {
				wantList(t, "With's row", f, g.P[i], f.P[i][:k])
				// A P y as well, with noughts ahead of y, leaves less of Q.
				left := f.Q[i]
				for j, n := range y {
					left = left.Sub(f.P[i][k+j].Mul(n))
				}
				wantInt(t, "With's Q", f, g.Q[i], left)
			}
			wantInt(t, "With's C", f, g.C, f.Value(slices.Concat(make([]long.Int, k), y)))
			x := s.list(k, 1000)
			wantInt(t, "With's Value", f, g.Value(x), f.Value(slices.Concat(x, y)))
			wantBig(t, "With's Value", f, g.Value(x), valueOver(f, slices.Concat(x, y), long.Of(1)))
		}
		for _, y := range [][]long.Int{nil, {}} {
			g, e := f.With(y)
			wantQuad(t, "With nothing", f, g, f)
			wantError(t, "With nothing", text(f), e, api.OK)
		}
	}
}

// H3: more numbers than the function has.
func TestWithTooMany(t *testing.T) {
	for _, f := range quads() {
		n := len(f.P)
		for _, told := range []int{n + 1, n + 2, 2*n + 1, 20} {
			g, e := f.With(make([]long.Int, told))
			wantError(t, "With", [2]int{n, told}, e, api.ErrArg)
			wantNothing(t, "With", g)
		}
	}
}

// H3: what is told bit by bit, from the last number on, is told at once.
func TestWithTwice(t *testing.T) {
	s := source(1566083941)
	for _, f := range quads() {
		y := s.list(len(f.P), 100)
		for k := range len(y) + 1 {
			some, _ := f.With(y[k:])
			all, e := some.With(y[:k])
			once, _ := f.With(y)
			wantQuad(t, "With twice", f, all, once)
			wantError(t, "With twice", k, e, api.OK)
		}
	}
}

// H4: ErrFlat, if the first k rows and columns are not definite, whatever the others are.
func TestWithoutFlat(t *testing.T) {
	known := [2]int{}
	for _, f := range quads() {
		most := bentUp(f)
		for k := range len(f.P) + 1 {
			g, scale, e := f.Without(k)
			if k <= most {
				known[1]++
				wantError(t, "Without", [2]any{k, text(f)}, e, api.OK)
				wantBig(t, "Without's scale", f, scale, minor(f, k))
				continue
			}
			known[0]++
			wantError(t, "Without", [2]any{k, text(f)}, e, api.ErrFlat)
			wantNothing(t, "Without", g, scale)
		}
	}
	if known[0] < 200 || known[1] < 200 {
		t.Error("one sort is rare:", known)
	}
}

// H4: a k that is none; that is told ahead of rows that are flat.
func TestWithoutWrong(t *testing.T) {
	for _, f := range quads() {
		n := len(f.P)
		for _, k := range []int{-1, -2, -n - 1, n + 1, n + 2, 13, 100, math.MinInt, math.MaxInt} {
			if k >= 0 && k <= n {
				continue
			}
			g, scale, e := f.Without(k)
			wantError(t, "Without", [2]int{n, k}, e, api.ErrArg)
			wantNothing(t, "Without", g, scale)
		}
	}
}

// H4: of k 0 nothing is left out, of whatever function.
func TestWithoutNone(t *testing.T) {
	for _, f := range append(quads(), Quad{}) {
		g, scale, e := f.Without(0)
		wantQuad(t, "Without(0)", f, g, f)
		wantInt(t, "Without(0)'s scale", f, scale, long.Of(1))
		wantError(t, "Without(0)", text(f), e, api.OK)
	}
}

// H4: where all is left out, the least value is left.
func TestWithoutAll(t *testing.T) {
	for _, f := range quads() {
		_, den, top, e := f.Least()
		g, scale, e2 := f.Without(len(f.P))
		wantError(t, "Without all", text(f), e2, e)
		wantQuad(t, "Without all", f, g, Quad{C: top})
		wantInt(t, "Without all's scale", f, scale, den)
	}
}

// H4: the others may be flat, or go down.
func TestWithoutOthersFlat(t *testing.T) {
	for _, c := range []struct {
		rows [][]int64
		q    []int64
		want Quad
	}{
		{[][]int64{{1, 0}, {0, 0}}, []int64{3, 4}, quad(t, [][]int64{{0}}, []int64{4}, -2)},
		{[][]int64{{1, 0}, {0, -1}}, []int64{3, 4}, quad(t, [][]int64{{-1}}, []int64{4}, -2)},
		{[][]int64{{2, 3}, {3, 4}}, []int64{1, 5}, quad(t, [][]int64{{-1}}, []int64{7}, 13)},
	} {
		f := quad(t, c.rows, c.q, 7)
		g, scale, e := f.Without(1)
		wantQuad(t, "Without(1)", f, g, c.want)
		wantInt(t, "Without(1)'s scale", f, scale, f.P[0][0])
		wantError(t, "Without(1)", c.rows, e, api.OK)
		_, _, e = f.Without(2)
		wantError(t, "Without(2)", c.rows, e, api.ErrFlat)
	}
	g, _, e := quad(t, [][]int64{{0, 1}, {1, 1}}, []int64{3, 4}, 7).Without(1)
	wantError(t, "Without(1)", "0 at first", e, api.ErrFlat)
	wantNothing(t, "Without(1)", g)
}

// H4: each number that is left, by determinants: with a row and a column more, that of the first ones is scale times
// what the promise tells.
func TestWithoutByDeterminants(t *testing.T) {
	for _, f := range quads() {
		n := len(f.P)
		for k := range n + 1 {
			g, _, e := f.Without(k)
			if e != api.OK || n > 8 && k%4 != 1 {
				continue
			}
			if len(g.P) != n-k || len(g.Q) != n-k {
				t.Fatal(n, k, text(g))
			}
			for i := range n - k + 1 {
				for j := range n - k + 1 {
					want := trueDet(k+1, func(row, column int) *big.Int {
						if row == k {
							row += i
						}
						if column == k {
							column += j
						}
						return place(f, row, column)
					})
					if got := place(g, i, j); got.Cmp(want) != 0 {
						t.Fatalf("Without(%d) of %s: %v at (%d, %d), not %v", k, text(f), got, i, j, want)
					}
				}
			}
		}
	}
}

// H4: scale times the least value over the first numbers, wherever the others are.
func TestWithoutIsLeast(t *testing.T) {
	s := source(1812433253)
	for _, f := range quads() {
		for k := range len(f.P) + 1 {
			g, scale, e := f.Without(k)
			if e != api.OK {
				continue
			}
			for _, most := range []int64{1, 50, 0} {
				y := s.list(len(f.P)-k, most)
				told, _ := f.With(y)
				_, den, top, e := told.Least()
				wantError(t, "Least", text(told), e, api.OK)
				wantInt(t, "Without's scale", f, scale, den)
				wantInt(t, "Without's Value", f, g.Value(y), top)
				x := s.list(k, most)
				if scale.Mul(f.Value(slices.Concat(x, y))).Cmp(g.Value(y)) < 0 {
					t.Errorf("%s is less than Without(%d)", text(f), k)
				}
			}
		}
	}
}

// times is f, so many times.
func times(f Quad, n long.Int) Quad {
	return Quad{
		P: square(len(f.P), func(i, j int) long.Int { return f.P[i][j].Mul(n) }),
		Q: made(len(f.Q), func(i int) long.Int { return f.Q[i].Mul(n) }),
		C: f.C.Mul(n),
	}
}

// H5: what is left out twice is left out at once; each time it is multiplied by its scale.
func TestWithoutTwice(t *testing.T) {
	for _, f := range quads() {
		for first := 0; first <= len(f.P); first += 1 + len(f.P)/5 {
			some, scale, e := f.Without(first)
			if e != api.OK {
				continue
			}
			for k := first; k <= len(f.P); k++ {
				once, all, e := f.Without(k)
				twice, again, e2 := some.Without(k - first)
				wantError(t, "Without twice", [3]any{first, k, text(f)}, e2, e)
				if e == api.OK {
					wantQuad(t, "Without twice", f, times(twice, all), times(once, scale.Mul(again)))
				}
			}
		}
	}
}

// Numbers far beyond an int64 are reckoned with like others.
func TestLongNumbers(t *testing.T) {
	far := read(t, "1"+strings.Repeat("0", 300))
	f := Quad{P: square(4, func(i, j int) long.Int {
		if i == j {
			return far.Mul(far).Add(long.Of(int64(i)))
		}
		return far.Sub(long.Of(int64(i * j)))
	}), Q: []long.Int{far, far.Neg(), long.Of(1), far.Mul(far)}, C: far.Neg()}
	x := []long.Int{far.Neg(), long.Of(3), far, far.Mul(far)}
	wantBig(t, "Value", f, f.Value(x), valueOver(f, x, long.Of(1)))
	num, den, top, e := f.Least()
	wantError(t, "Least", "long numbers", e, api.OK)
	wantBig(t, "Least's top", f, den.Mul(top), valueOver(f, num, den))
	told, _ := f.With(x[2:])
	_, den, top, _ = told.Least()
	g, scale, e := f.Without(2)
	wantError(t, "Without", "long numbers", e, api.OK)
	wantInt(t, "Without's scale", f, scale, den)
	wantInt(t, "Without's Value", f, g.Value(x[2:]), top)
}

// inOneMemory is f with all its lists one behind the other in one memory, and a list y and more behind them: who made
// a list longer on the spot would spoil what lies behind it.
func inOneMemory(f Quad, y []long.Int) (g Quad, inside, memory []long.Int) {
	n := len(f.P)
	for i := range n {
		memory = append(memory, f.P[i]...)
	}
	memory = append(memory, f.Q...)
	memory = append(memory, y...)
	memory = append(memory, list(71, 72, 73, 74, 75)...)
	g = Quad{P: made(n, func(i int) []long.Int { return memory[i*n : i*n+n] }), Q: memory[n*n : n*n+n], C: f.C}
	return g, memory[n*n+n : n*n+n+len(y)], memory
}

// R5: what is handed in stays, and so does what lies behind it in its memory.
func TestHandedInStays(t *testing.T) {
	s := source(40014)
	for _, f := range quads() {
		n := len(f.P)
		for k := range n + 1 {
			g, y, memory := inOneMemory(f, s.list(n-k, 100))
			before := slices.Clone(memory)
			if k == 0 {
				g.Value(y)
				g.Slope(y)
				g.Add(g)
				g.Least()
			}
			g.With(y)
			g.Without(k)
			wantList(t, "the memory", f, memory, before)
			wantQuad(t, "what was handed in", f, g, f)
		}
	}
	rows, q := [][]int64{{1, 2}, {2, 4}}, []int64{5, 6}
	f := quad(t, rows, q, 7)
	rows[0][1], rows[1], q[0] = 9, nil, 9
	wantQuad(t, "Of", f, f, Quad{P: lin.Mat{list(1, 2), list(2, 4)}, Q: list(5, 6), C: long.Of(7)})
}

// lists are all lists of a function, with what lies behind them in their memory.
func lists(f Quad) [][]long.Int {
	out := append(made(len(f.P), func(i int) []long.Int { return f.P[i] }), f.Q)
	for i := range out {
		out[i] = out[i][:cap(out[i])]
	}
	return out
}

// fill writes a number of its own into each list.
func fill(lists [][]long.Int) {
	for i, l := range lists {
		for j := range l {
			l[j] = long.Of(int64(1000 + i))
		}
	}
}

// What is answered is new memory: who changes it changes neither what was handed in nor another list of an answer.
func TestAnswersAreNewMemory(t *testing.T) {
	s := source(2463534242)
	for _, f := range quads() {
		n := len(f.P)
		x := s.list(n, 9)
		for k := range n + 1 {
			g, y, memory := inOneMemory(f, x[k:])
			before := slices.Clone(memory)
			with, _ := g.With(y)
			without, _, _ := g.Without(k)
			num, _, _, _ := g.Least()
			all := append(append(lists(with), lists(without)...), lists(g.Add(g))...)
			all = append(all, num, g.Slope(x))
			fill(all)
			for i, l := range all {
				for _, got := range l {
					wantInt(t, "a list of an answer", f, got, long.Of(int64(1000+i)))
				}
			}
			wantList(t, "the memory", f, memory, before)
		}
	}
}

// R6: the same from the same.
func TestSameFromSame(t *testing.T) {
	s := source(2685821657)
	for _, f := range quads() {
		n := len(f.P)
		y := s.list(n/2, 9)
		g, e := f.With(y)
		again, e2 := f.With(y)
		wantQuad(t, "With again", f, again, g)
		wantError(t, "With again", text(f), e2, e)
		g, scale, e := f.Without(n / 2)
		again, same, e2 := f.Without(n / 2)
		wantQuad(t, "Without again", f, again, g)
		wantInt(t, "Without's scale again", f, same, scale)
		wantError(t, "Without again", text(f), e2, e)
		num, den, top, e := f.Least()
		num2, den2, top2, e2 := f.Least()
		wantList(t, "Least again", f, num2, num)
		wantInt(t, "Least's den again", f, den2, den)
		wantInt(t, "Least's top again", f, top2, top)
		wantError(t, "Least again", text(f), e2, e)
	}
}
