package lin

import (
	"math"
	"math/big"
	"strings"
	"testing"

	"gimbal/api"
	"gimbal/long"
)

// mat is the matrix of rows that must be one.
func mat(t *testing.T, rows ...[]int64) Mat {
	t.Helper()
	a, e := Of(rows)
	if e != api.OK {
		t.Fatalf("Of(%v): %v", rows, e)
	}
	return a
}

// list is a list of small numbers.
func list(n ...int64) []long.Int {
	out := []long.Int{}
	for _, x := range n {
		out = append(out, long.Of(x))
	}
	return out
}

// read is the number that a text tells, which must be one.
func read(t *testing.T, s string) long.Int {
	t.Helper()
	x, e := long.Parse(s)
	if e != api.OK {
		t.Fatal(s, e)
	}
	return x
}

// toBig is x as a number of the library.
func toBig(x long.Int) *big.Int {
	b, _ := new(big.Int).SetString(x.String(), 10)
	return b
}

func wantInt(t *testing.T, what string, of any, got, want long.Int) {
	t.Helper()
	if got.Cmp(want) != 0 {
		t.Errorf("%s of %v: %v, not %v", what, of, got, want)
	}
}

func wantBig(t *testing.T, what string, of any, got long.Int, want *big.Int) {
	t.Helper()
	if toBig(got).Cmp(want) != 0 {
		t.Errorf("%s of %v: %v, not %v", what, of, got, want)
	}
}

func wantList(t *testing.T, what string, of any, got, want []long.Int) {
	t.Helper()
	if len(got) != len(want) {
		t.Fatalf("%s of %v: %v, not %v", what, of, got, want)
	}
	for i := range want {
		wantInt(t, what, of, got[i], want[i])
	}
}

func wantMat(t *testing.T, what string, of any, got, want Mat) {
	t.Helper()
	if len(got) != len(want) {
		t.Fatalf("%s of %v: %v, not %v", what, of, got, want)
	}
	for i := range want {
		wantList(t, what, of, got[i], want[i])
	}
}

func wantBool(t *testing.T, what string, of any, got, want bool) {
	t.Helper()
	if got != want {
		t.Errorf("%s of %v: %v", what, of, got)
	}
}

// source tells numbers that look like any, the same in each run.
type source uint64

func (s *source) below(n int64) int64 {
	*s ^= *s << 13
	*s ^= *s >> 7
	*s ^= *s << 17
	return int64(uint64(*s)>>8) % n
}

// number is one from -n to n, or, of n 0, an int64 of any size.
func (s *source) number(n int64) int64 {
	if n == 0 {
		return (s.below(1<<55)<<9 ^ s.below(1<<55)) >> s.below(60)
	}
	return s.below(2*n+1) - n
}

func (s *source) matrix(order int, most int64) Mat {
	return square(order, func(i, j int) long.Int { return long.Of(s.number(most)) })
}

func (s *source) list(order int, most int64) []long.Int {
	return made(order, func(i int) long.Int { return long.Of(s.number(most)) })
}

// matrices are of all orders: with many noughts, so that rows must change places and determinants are 0, and with
// numbers of all sizes.
func matrices() []Mat {
	s := source(88172645463325252)
	var out []Mat
	for order := range api.MaxOrder + 1 {
		for _, most := range []int64{1, 1, 1, 2, 3, 9, 1000, 0, 0} {
			out = append(out, s.matrix(order, most))
		}
		out = append(out, sparse(&s, order), sparse(&s, order), flat(&s, order))
	}
	return out
}

// sparse has a number in each row and each column, and few others.
func sparse(s *source, order int) Mat {
	step, from := order-1, int(s.below(int64(order+1)))
	return square(order, func(i, j int) long.Int {
		switch {
		case (i*step+from)%order == j:
			return long.Of(s.number(4)*2 + 1)
		case s.below(6) == 0:
			return long.Of(s.number(5))
		}
		return long.Int{}
	})
}

// flat has a last row that is made of the others.
func flat(s *source, order int) Mat {
	a := s.matrix(order, 5)
	if order == 0 {
		return a
	}
	a[order-1] = make([]long.Int, order)
	for i := range order - 1 {
		addRow(a, order-1, i, long.Of(s.number(3)))
	}
	return a
}

// addRow adds a row, so many times, to another one, on the spot.
func addRow(a Mat, to, from int, times long.Int) {
	a[to] = made(len(a), func(j int) long.Int { return a[to][j].Add(a[from][j].Mul(times)) })
}

// trueDet is the determinant by fractions, a way of its own.
func trueDet(a Mat) *big.Int {
	n := len(a)
	m := made(n, func(i int) []*big.Rat {
		return made(n, func(j int) *big.Rat { return new(big.Rat).SetInt(toBig(a[i][j])) })
	})
	det := big.NewRat(1, 1)
	for k := range n {
		p := k
		for p < n && m[p][k].Sign() == 0 {
			p++
		}
		if p == n {
			return new(big.Int)
		}
		if p != k {
			m[p], m[k] = m[k], m[p]
			det.Neg(det)
		}
		det.Mul(det, m[k][k])
		for i := k + 1; i < n; i++ {
			f := new(big.Rat).Quo(m[i][k], m[k][k])
			for j := k; j < n; j++ {
				m[i][j].Sub(m[i][j], new(big.Rat).Mul(f, m[k][j]))
			}
		}
	}
	return det.Num()
}

// expanded is the determinant by its first row, as the word is told in books; of small orders.
func expanded(a Mat) long.Int {
	if len(a) == 0 {
		return long.Of(1)
	}
	var sum long.Int
	for j, x := range a[0] {
		part := x.Mul(expanded(square(len(a)-1, func(r, c int) long.Int {
			if c >= j {
				c++
			}
			return a[r+1][c]
		})))
		if j%2 == 1 {
			part = part.Neg()
		}
		sum = sum.Add(part)
	}
	return sum
}

// leading is the first k rows and columns.
func leading(a Mat, k int) Mat {
	return square(k, func(i, j int) long.Int { return a[i][j] })
}

// diagonal has these numbers there, and noughts elsewhere.
func diagonal(n ...int64) Mat {
	return square(len(n), func(i, j int) long.Int {
		if i == j {
			return long.Of(n[i])
		}
		return long.Int{}
	})
}

// The document's examples.
func TestExamples(t *testing.T) {
	first, second := mat(t, []int64{2, 1}, []int64{1, 3}), mat(t, []int64{1, 2}, []int64{2, 4})
	wantInt(t, "Det", first, first.Det(), long.Of(5))
	wantInt(t, "Det", second, second.Det(), long.Of(0))
	num, den, e := first.Solve(list(1, 2))
	wantList(t, "Solve", first, num, list(1, 3))
	wantInt(t, "Solve", first, den, long.Of(5))
	if e != api.OK {
		t.Error(e)
	}
	if _, _, e := second.Solve(list(1, 2)); e != api.ErrZero {
		t.Error(e)
	}
	wantBool(t, "Definite", first, first.Definite(), true)
	for _, a := range []Mat{mat(t, []int64{1, 2}, []int64{2, 1}), mat(t, []int64{1, 0}, []int64{1, 1})} {
		wantBool(t, "Definite", a, a.Definite(), false)
	}
	wantInt(t, "Quad", first, first.Quad(list(1, -1)), long.Of(3))
}

// numbers are rows of this length, each number its own.
func numbers(rows, length int) [][]int64 {
	return made(rows, func(i int) []int64 {
		return made(length, func(j int) int64 { return int64(100*i + j + 1) })
	})
}

// G1: a matrix of each order to 12.
func TestOf(t *testing.T) {
	for n := range api.MaxOrder + 1 {
		a, e := Of(numbers(n, n))
		if e != api.OK || len(a) != n {
			t.Fatal(n, e, len(a))
		}
		for i, row := range a {
			if len(row) != n {
				t.Fatal(n, i, len(row))
			}
			for j, x := range row {
				wantInt(t, "the place", [2]int{i, j}, x, long.Of(int64(100*i+j+1)))
			}
		}
	}
	a := mat(t, []int64{math.MinInt64, math.MaxInt64}, []int64{-1, 0})
	wantMat(t, "Of", "the greatest", a, Mat{{read(t, "-9223372036854775808"), read(t, "9223372036854775807")}, list(-1, 0)})
	for _, none := range [][][]int64{nil, {}} {
		if a, e := Of(none); e != api.OK || len(a) != 0 {
			t.Error(a, e)
		}
	}
}

// G1: too many rows; that is told first, whatever the rows are.
func TestOfTooMany(t *testing.T) {
	for _, rows := range [][][]int64{
		numbers(13, 13), numbers(14, 14), numbers(100, 100), make([][]int64, 13), numbers(13, 12), append(numbers(13, 13), nil),
	} {
		if a, e := Of(rows); e != api.ErrLong || len(a) != 0 {
			t.Errorf("%d rows: %v, %v", len(rows), a, e)
		}
	}
}

// G1: a row, whichever, that is too long or too short.
func TestOfUneven(t *testing.T) {
	for n := 1; n <= api.MaxOrder; n++ {
		for i := range n {
			for _, length := range []int{0, n - 1, n + 1, 13, 20} {
				if length == n {
					continue
				}
				rows := numbers(n, n)
				rows[i] = make([]int64, length)
				if a, e := Of(rows); e != api.ErrArg || len(a) != 0 {
					t.Errorf("order %d, row %d of %d: %v, %v", n, i, length, a, e)
				}
			}
		}
	}
	for _, rows := range [][][]int64{{nil}, {{}}, {{1, 2}}, {{1}, {2}}, {{1, 2}, {3}}, {{1}, {2, 3}}, {{1, 2}, {3, 4}, {5, 6}}, numbers(12, 13)} {
		if a, e := Of(rows); e != api.ErrArg || len(a) != 0 {
			t.Errorf("%v: %v, %v", rows, a, e)
		}
	}
}

// G2: the determinant, 1 of order 0.
func TestDet(t *testing.T) {
	wantInt(t, "Det", "nothing", Mat(nil).Det(), long.Of(1))
	wantInt(t, "Det", "nothing", Mat{}.Det(), long.Of(1))
	for _, n := range []int64{0, 1, -7, math.MinInt64} {
		wantInt(t, "Det", n, mat(t, []int64{n}).Det(), long.Of(n))
	}
	a := mat(t, []int64{0, 2, 1}, []int64{1, 0, 3}, []int64{4, 1, 0})
	wantInt(t, "Det", a, a.Det(), long.Of(25))
	for _, a := range matrices() {
		wantBig(t, "Det", a, a.Det(), trueDet(a))
		if len(a) <= 6 {
			wantInt(t, "Det", a, a.Det(), expanded(a))
		}
	}
}

// G2: all matrices of the numbers -1, 0 and 1: rows change places in all ways.
func TestDetOfAllSmallOnes(t *testing.T) {
	for order := 1; order <= 3; order++ {
		count := int(math.Pow(3, float64(order*order)))
		for code := range count {
			left := code
			a := square(order, func(i, j int) long.Int {
				n := left%3 - 1
				left /= 3
				return long.Of(int64(n))
			})
			wantInt(t, "Det", a, a.Det(), expanded(a))
			if t.Failed() {
				return
			}
		}
	}
}

// permutations are all orders of 0 to n - 1, each with whether it is odd.
func permutations(n int, told func(p []int, odd bool)) {
	p := made(n, func(i int) int { return i })
	var from func(k int, odd bool)
	from = func(k int, odd bool) {
		if k == n {
			told(p, odd)
			return
		}
		for i := k; i < n; i++ {
			p[k], p[i] = p[i], p[k]
			from(k+1, odd != (i != k))
			p[k], p[i] = p[i], p[k]
		}
	}
	from(0, false)
}

// G2: where a single number stands in each row and column, all rows change places.
func TestDetWhereRowsChangePlaces(t *testing.T) {
	for n := range 6 {
		permutations(n, func(p []int, odd bool) {
			want, product := long.Of(1), long.Of(1)
			if odd {
				want = want.Neg()
			}
			a := square(n, func(i, j int) long.Int {
				if p[i] == j {
					return long.Of(int64(2*i + 3))
				}
				return long.Int{}
			})
			for i := range n {
				product = product.Mul(long.Of(int64(2*i + 3)))
			}
			wantInt(t, "Det", p, a.Det(), want.Mul(product))
			num, den, e := a.Solve(list(10, 20, 30, 40, 50)[:n])
			wantInt(t, "Solve", p, den, want.Mul(product))
			for i := range n {
				wantInt(t, "Solve", p, num[p[i]].Mul(long.Of(int64(2*i+3))), den.Mul(long.Of(int64(10*i+10))))
			}
			if e != api.OK {
				t.Error(e)
			}
		})
	}
	backwards := square(12, func(i, j int) long.Int {
		if i+j == 11 {
			return long.Of(-2)
		}
		return long.Int{}
	})
	wantInt(t, "Det", "the other diagonal", backwards.Det(), long.Of(4096))
}

// wantSolved holds an answer of Solve against its promise.
func wantSolved(t *testing.T, a Mat, b []long.Int) {
	t.Helper()
	num, den, e := a.Solve(b)
	det := trueDet(a)
	if det.Sign() == 0 {
		if e != api.ErrZero || len(num) != 0 || den.Sign() != 0 {
			t.Errorf("Solve of %v and %v: %v, %v, %v", a, b, num, den, e)
		}
		return
	}
	if e != api.OK || len(num) != len(a) {
		t.Fatalf("Solve of %v and %v: %v, %v, %v", a, b, num, den, e)
	}
	wantBig(t, "Solve's den", a, den, det)
	for i, row := range a {
		sum := new(big.Int)
		for j, x := range row {
			sum.Add(sum, new(big.Int).Mul(toBig(x), toBig(num[j])))
		}
		wantBig(t, "den times b", a, den.Mul(b[i]), sum)
	}
}

// G2: a times num is den times b, den the determinant; ErrZero where that is 0.
func TestSolve(t *testing.T) {
	s := source(362436069)
	zeros := 0
	for _, a := range matrices() {
		wantSolved(t, a, s.list(len(a), 3))
		wantSolved(t, a, s.list(len(a), 0))
		wantSolved(t, a, make([]long.Int, len(a)))
		if a.Det().Sign() == 0 {
			zeros++
		}
	}
	if zeros < 20 {
		t.Error("few determinants are 0:", zeros)
	}
	for _, b := range [][]long.Int{nil, {}} {
		num, den, e := Mat(nil).Solve(b)
		if len(num) != 0 || den.Cmp(long.Of(1)) != 0 || e != api.OK {
			t.Error(num, den, e)
		}
	}
	num, den, e := mat(t, []int64{-7}).Solve(list(3))
	wantList(t, "Solve", "-7", num, list(3))
	wantInt(t, "Solve", "-7", den, long.Of(-7))
	if e != api.OK {
		t.Error(e)
	}
}

// G2: each number of num is the determinant with b for that column.
func TestSolveByColumns(t *testing.T) {
	s := source(521288629)
	for _, a := range matrices() {
		b := s.list(len(a), 50)
		num, _, e := a.Solve(b)
		if e != api.OK {
			continue
		}
		for k := range a {
			wantInt(t, "Solve", a, num[k], square(len(a), func(i, j int) long.Int {
				if j == k {
					return b[i]
				}
				return a[i][j]
			}).Det())
		}
	}
}

// G2: a list that is too short or too long is told ahead of a determinant that is 0.
func TestSolveWrongLists(t *testing.T) {
	for _, a := range matrices() {
		n := len(a)
		for _, length := range []int{0, n - 1, n + 1, 2*n + 1, 13} {
			if length == n || length < 0 {
				continue
			}
			num, den, e := a.Solve(make([]long.Int, length))
			if e != api.ErrArg || len(num) != 0 || den.Sign() != 0 {
				t.Errorf("order %d and %d: %v, %v, %v", n, length, num, den, e)
			}
		}
	}
	zero := diagonal(0, 0)
	if _, _, e := zero.Solve(list(1)); e != api.ErrArg {
		t.Error(e)
	}
	if _, _, e := zero.Solve(list(0, 0)); e != api.ErrZero {
		t.Error(e)
	}
}

// G3: rows with columns, written out.
func TestMul(t *testing.T) {
	a, b := mat(t, []int64{1, 2}, []int64{3, 4}), mat(t, []int64{0, 1}, []int64{1, 0})
	wantMat(t, "Mul", a, a.Mul(b), mat(t, []int64{2, 1}, []int64{4, 3}))
	wantMat(t, "Mul", b, b.Mul(a), mat(t, []int64{3, 4}, []int64{1, 2}))
	wantMat(t, "Mul", "nothing", Mat{}.Mul(nil), nil)
	s := source(123456789)
	for _, a := range matrices() {
		b := s.matrix(len(a), 0)
		got := a.Mul(b)
		if len(got) != len(a) {
			t.Fatal(len(a), len(got))
		}
		for i := range a {
			if len(got[i]) != len(a) {
				t.Fatal(len(a), len(got[i]))
			}
			for j := range a {
				sum := new(big.Int)
				for k := range a {
					sum.Add(sum, new(big.Int).Mul(toBig(a[i][k]), toBig(b[k][j])))
				}
				wantBig(t, "Mul", a, got[i][j], sum)
			}
		}
	}
}

// G3: rows for columns.
func TestTurned(t *testing.T) {
	a := mat(t, []int64{1, 2, 3}, []int64{4, 5, 6}, []int64{7, 8, 9})
	wantMat(t, "Turned", a, a.Turned(), mat(t, []int64{1, 4, 7}, []int64{2, 5, 8}, []int64{3, 6, 9}))
	wantMat(t, "Turned", "nothing", Mat{}.Turned(), nil)
	for _, a := range matrices() {
		got := a.Turned()
		for i := range a {
			for j := range a {
				wantInt(t, "Turned", a, got[j][i], a[i][j])
			}
		}
		wantMat(t, "Turned twice", a, got.Turned(), a)
	}
}

// G3: the rows with the list, and that with the list again.
func TestApplyAndQuad(t *testing.T) {
	a := mat(t, []int64{1, 2, 3}, []int64{4, 5, 6}, []int64{7, 8, 10})
	wantList(t, "Apply", a, a.Apply(list(1, 10, -100)), list(-279, -546, -913))
	wantInt(t, "Quad", a, a.Quad(list(1, 10, -100)), long.Of(-279-5460+91300))
	wantList(t, "Apply", "nothing", Mat{}.Apply(nil), nil)
	wantInt(t, "Quad", "nothing", Mat{}.Quad(nil), long.Of(0))
	s := source(987654321)
	for _, a := range matrices() {
		x := s.list(len(a), 0)
		got, quad := a.Apply(x), new(big.Int)
		if len(got) != len(a) {
			t.Fatal(len(a), len(got))
		}
		for i := range a {
			sum := new(big.Int)
			for j := range a {
				sum.Add(sum, new(big.Int).Mul(toBig(a[i][j]), toBig(x[j])))
			}
			wantBig(t, "Apply", a, got[i], sum)
			quad.Add(quad, sum.Mul(sum, toBig(x[i])))
		}
		wantBig(t, "Quad", a, a.Quad(x), quad)
	}
}

// G4: definite ones, and such as lack a little.
func TestDefinite(t *testing.T) {
	for _, a := range []Mat{
		nil, {}, diagonal(1), diagonal(3, 1, 2), diagonal(1, 1, 1, 1, 1, 1, 1, 1, 1, 1, 1, 1), mat(t, []int64{4, 1, 0}, []int64{1, 4, 1}, []int64{0, 1, 4}),
		mat(t, []int64{2, -1}, []int64{-1, 1}), mat(t, []int64{1, 2}, []int64{2, 5}), mat(t, []int64{1 << 60, 1}, []int64{1, 1 << 60}),
		mat(t, []int64{1 << 40, 1<<30 - 1}, []int64{1<<30 - 1, 1 << 20}),
	} {
		wantBool(t, "Definite", a, a.Definite(), true)
	}
	for _, a := range []Mat{
		diagonal(0), diagonal(-1), diagonal(0, 0), diagonal(1, 0), diagonal(0, 1), diagonal(-1, -1), diagonal(-1, 1), diagonal(1, -1, -1), diagonal(-1, -1, 1),
		diagonal(1, 1, 1, 1, 1, 1, 1, 1, 1, 1, 1, 0), diagonal(1, 1, 1, 1, 1, 1, 1, 1, 1, 1, 1, -1), diagonal(1, 0, 1), diagonal(-1, -1, -1, -1),
		mat(t, []int64{0, 1}, []int64{1, 0}), mat(t, []int64{0, 1}, []int64{1, 5}), mat(t, []int64{1, 2}, []int64{2, 4}), mat(t, []int64{1, 2}, []int64{2, 3}),
		mat(t, []int64{1 << 40, 1 << 30}, []int64{1 << 30, 1 << 20}), mat(t, []int64{1, 1, 0}, []int64{1, 1, 0}, []int64{0, 0, 1}),
	} {
		wantBool(t, "Definite", a, a.Definite(), false)
	}
}

// G4: a single place that is not as its turned one is enough, though the quadratic form stays above 0.
func TestDefiniteIsItsOwnTurned(t *testing.T) {
	for n := 2; n <= api.MaxOrder; n++ {
		for i := range n {
			for j := range n {
				a := square(n, func(i, j int) long.Int {
					if i == j {
						return long.Of(1000)
					}
					return long.Of(int64(i + j))
				})
				wantBool(t, "Definite", a, a.Definite(), true)
				a[i][j] = a[i][j].Add(long.Of(1))
				wantBool(t, "Definite", a, a.Definite(), i == j)
			}
		}
	}
	// Turned the other way, it is as far from 0, but not the same.
	for _, a := range []Mat{mat(t, []int64{5, 1}, []int64{-1, 5}), mat(t, []int64{1, 0}, []int64{1, 1})} {
		wantBool(t, "Definite", a, a.Definite(), false)
	}
}

// lists are all lists of numbers from -most to most but noughts alone.
func lists(n, most int, told func(x []long.Int)) {
	x := make([]long.Int, n)
	var from func(k int, zero bool)
	from = func(k int, zero bool) {
		if k == n {
			if !zero {
				told(x)
			}
			return
		}
		for m := -most; m <= most; m++ {
			x[k] = long.Of(int64(m))
			from(k+1, zero && m == 0)
		}
	}
	from(0, true)
}

// evens are matrices that are their own turned ones.
func evens() []Mat {
	s := source(1812433253)
	var out []Mat
	for order := range api.MaxOrder + 1 {
		for _, most := range []int64{1, 2, 3, 5, 0} {
			a := s.matrix(order, most)
			b := square(order, func(i, j int) long.Int { return a[i][j].Add(a[j][i]) })
			raised := square(order, func(i, j int) long.Int {
				if i == j {
					return b[i][j].Add(long.Of(s.below(int64(2 * order * 5))))
				}
				return b[i][j]
			})
			f := flat(&s, order)
			out = append(out, b, raised, a.Turned().Mul(a), f.Mul(f.Turned()))
		}
	}
	return out
}

// G4: where a is definite, no list brings its quadratic form to 0; of small orders, where it is not, a list is known
// that does. (It is one of those that bring out a leading minor.)
func TestDefiniteByLists(t *testing.T) {
	known := [2]int{}
	for _, a := range evens() {
		if len(a) > 4 {
			continue
		}
		definite := a.Definite()
		lists(len(a), 2, func(x []long.Int) {
			if a.Quad(x).Sign() <= 0 && definite {
				t.Errorf("%v is no definite one: %v", a, x)
			}
		})
		if !definite {
			wantBool(t, "a list below", a, hasListBelow(a), true)
			known[0]++
		} else {
			known[1]++
		}
	}
	if known[0] < 20 || known[1] < 20 {
		t.Error("one sort is rare:", known)
	}
}

// hasListBelow tells whether a list is found, not of noughts alone, at which the quadratic form is not above 0.
func hasListBelow(a Mat) bool {
	for k := 1; k <= len(a); k++ {
		if leading(a, k).Det().Sign() > 0 {
			continue
		}
		// The first leading minor that is not above 0: what solves it with the last column brings the form below.
		x := make([]long.Int, len(a))
		num, den, _ := leading(a, k-1).Solve(made(k-1, func(i int) long.Int { return a[i][k-1] }))
		for i := range num {
			x[i] = num[i].Neg()
		}
		x[k-1] = den
		return den.Sign() != 0 && a.Quad(x).Sign() <= 0
	}
	return false
}

// G4: what a matrix makes with its turned one is definite just if its determinant is not 0.
func TestDefiniteOfProducts(t *testing.T) {
	for _, a := range matrices() {
		product := a.Turned().Mul(a)
		wantBool(t, "Definite", product, product.Definite(), a.Det().Sign() != 0)
		minus := square(len(a), func(i, j int) long.Int { return product[i][j].Neg() })
		wantBool(t, "Definite", minus, minus.Definite(), len(a) == 0)
	}
}

// G5: what is its own turned one is definite just if all leading minors are above 0.
func TestDefiniteByMinors(t *testing.T) {
	for _, a := range evens() {
		want := true
		for k := range len(a) + 1 {
			want = want && trueDet(leading(a, k)).Sign() > 0
		}
		wantBool(t, "Definite", a, a.Definite(), want)
	}
}

// G5: determinants are multiplied with matrices, and do not feel it when rows are columns.
func TestDetOfProductsAndTurned(t *testing.T) {
	s := source(69069)
	for _, a := range matrices() {
		b := s.matrix(len(a), 7)
		wantInt(t, "Det", a, a.Mul(b).Det(), a.Det().Mul(b.Det()))
		wantInt(t, "Det", a, b.Mul(a).Det(), a.Det().Mul(b.Det()))
		wantInt(t, "Det of Turned", a, a.Turned().Det(), a.Det())
	}
}

// G5: a row that is added to another one is not felt; two that change places are.
func TestDetOfRows(t *testing.T) {
	s := source(1566083941)
	for _, a := range matrices() {
		n := len(a)
		if n < 2 {
			continue
		}
		i := int(s.below(int64(n)))
		j := (i + 1 + int(s.below(int64(n-1)))) % n
		changed := append(Mat{}, a...)
		changed[i], changed[j] = changed[j], changed[i]
		wantInt(t, "Det", a, changed.Det(), a.Det().Neg())
		added := append(Mat{}, a...)
		addRow(added, i, j, long.Of(1))
		wantInt(t, "Det", a, added.Det(), a.Det())
		addRow(added, j, i, long.Of(s.number(1000)))
		wantInt(t, "Det", a, added.Det(), a.Det())
	}
}

// Numbers far beyond an int64 are reckoned with like others.
func TestLongNumbers(t *testing.T) {
	for n, digits := range map[int]int{1: 1999, 2: 1999, 3: 1000, 6: 300, 12: 100} {
		far := read(t, "1"+strings.Repeat("0", digits))
		a := square(n, func(i, j int) long.Int {
			if i == j {
				return far.Mul(far).Add(long.Of(int64(i)))
			}
			return far.Sub(long.Of(int64(i * j)))
		})
		wantBig(t, "Det", n, a.Det(), trueDet(a))
		wantBool(t, "Definite", n, a.Definite(), true)
		wantSolved(t, a, made(n, func(i int) long.Int { return far.Neg().Add(long.Of(int64(i))) }))
		a[n-1][n-1] = a[n-1][n-1].Neg()
		wantBool(t, "Definite", n, a.Definite(), false)
	}
}

// copyOf is a in memory of its own.
func copyOf(a Mat) Mat {
	return square(len(a), func(i, j int) long.Int { return long.Of(0).Add(a[i][j]) })
}

// R5: what is handed in stays, whichever rows must change places; what is answered is new memory.
func TestHandedInStays(t *testing.T) {
	s := source(40014)
	for _, a := range matrices() {
		b, x := s.matrix(len(a), 9), s.list(len(a), 9)
		a0, b0 := copyOf(a), copyOf(b)
		x0 := append([]long.Int{}, x...)
		a.Det()
		a.Definite()
		a.Quad(x)
		num, _, _ := a.Solve(x)
		answers := append(Mat{num, a.Apply(x)}, a.Turned()...)
		answers = append(answers, a.Mul(b)...)
		wantMat(t, "what was handed in", len(a), a, a0)
		wantMat(t, "what was handed in", len(a), b, b0)
		wantList(t, "what was handed in", len(a), x, x0)
		for _, list := range answers {
			for i := range list {
				list[i] = long.Of(77)
			}
		}
		wantMat(t, "what was handed in, with answers changed,", len(a), a, a0)
		wantMat(t, "what was handed in, with answers changed,", len(a), b, b0)
		wantList(t, "what was handed in, with answers changed,", len(a), x, x0)
	}
	rows := [][]int64{{1, 2}, {3, 4}}
	a := mat(t, rows...)
	rows[0][1], rows[1] = 9, nil
	wantMat(t, "Of", "rows that were changed", a, Mat{list(1, 2), list(3, 4)})
}

// R6: the same from the same.
func TestSameFromSame(t *testing.T) {
	for _, a := range matrices() {
		b := made(len(a), func(i int) long.Int { return long.Of(int64(i + 1)) })
		num, den, e := a.Solve(b)
		again, same, f := a.Solve(b)
		wantList(t, "Solve again", a, again, num)
		wantInt(t, "Solve again", a, same, den)
		wantInt(t, "Det again", a, a.Det(), a.Det())
		if e != f {
			t.Error(e, f)
		}
	}
}
