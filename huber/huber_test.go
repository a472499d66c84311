package huber

import (
	"math"
	"math/big"
	"testing"

	"gimbal/api"
)

const most = int64(api.Most)

// residuals are int64s on both sides of 0, to the least and the greatest: small ones, those about which what is
// handed in is cut or refused, and some between.
func residuals() []int64 {
	var up []int64
	for _, n := range []int64{
		1, 5, 9, 100, 1000, 32768, 46340, 65536, 1 << 20, 1 << 30, most - 1, most + 1, 1 << 32, 3037000499, 1 << 40, 1 << 62,
	} {
		up = append(up, n-1, n, n+1)
	}
	seed := uint64(88172645463325252)
	for n := range 30 {
		seed ^= seed << 13
		seed ^= seed >> 7
		seed ^= seed << 17
		up = append(up, int64(seed>>(32+n)))
	}
	out := []int64{math.MaxInt64, math.MaxInt64 - 1, math.MinInt64}
	for _, n := range up {
		out = append(out, n, -n)
	}
	return out
}

// near are those that Bound takes.
func near() []int64 {
	var out []int64
	for _, n := range residuals() {
		if -32768 <= n && n <= 32768 {
			out = append(out, n)
		}
	}
	return out
}

// knees are those that Bound takes.
func knees() []int64 {
	var out []int64
	for _, n := range near() {
		if n >= 0 {
			out = append(out, n)
		}
	}
	return out
}

// limited is n, not below low and not above Most.
func limited(n, low int64) *big.Int {
	switch {
	case n < low:
		return big.NewInt(low)
	case n > most:
		return big.NewInt(most)
	}
	return big.NewInt(n)
}

func product(a, b *big.Int) *big.Int { return new(big.Int).Mul(a, b) }

// promised is what is promised of a residual and a knee, term by term.
type promised struct{ rho, slope, num, den, lift *big.Int }

func promise(r, k int64) promised {
	cut, knee := limited(r, -most), limited(k, 0)
	size := new(big.Int).Abs(cut)
	if size.Cmp(knee) <= 0 {
		return promised{product(cut, cut), cut, big.NewInt(1), big.NewInt(1), big.NewInt(0)}
	}
	twice := product(big.NewInt(2), product(knee, size))
	over := new(big.Int).Sub(product(knee, size), product(knee, knee))
	return promised{
		rho:   twice.Sub(twice, product(knee, knee)),
		slope: product(knee, big.NewInt(int64(cut.Sign()))),
		num:   knee,
		den:   size,
		lift:  product(size, over),
	}
}

func same(n int64, b *big.Int) bool { return b.IsInt64() && b.Int64() == n }

// wantCosts holds Rho, Slope and Weight against what they should be.
func wantCosts(t *testing.T, r, k, rho, slope, num, den int64) {
	t.Helper()
	if got := Rho(r, k); got != rho {
		t.Errorf("Rho(%d, %d): %d, not %d", r, k, got, rho)
	}
	if got := Slope(r, k); got != slope {
		t.Errorf("Slope(%d, %d): %d, not %d", r, k, got, slope)
	}
	if n, d := Weight(r, k); n != num || d != den {
		t.Errorf("Weight(%d, %d): %d over %d, not %d over %d", r, k, n, d, num, den)
	}
}

func wantBound(t *testing.T, r, at, k, num, den int64, e api.Errno) {
	t.Helper()
	if n, d, got := Bound(r, at, k); n != num || d != den || got != e {
		t.Errorf("Bound(%d, %d, %d): %d over %d, %v; not %d over %d, %v", r, at, k, n, d, got, num, den, e)
	}
}

// bound is Bound of numbers that it must take.
func bound(t *testing.T, r, at, k int64) (num, den int64) {
	t.Helper()
	num, den, e := Bound(r, at, k)
	if e != api.OK || den < 1 {
		t.Fatalf("Bound(%d, %d, %d): %d over %d, %v", r, at, k, num, den, e)
	}
	return num, den
}

// I1, I2: the document's examples, the knee itself, and a knee of 0.
func TestCostsAreThoseOfTheDocument(t *testing.T) {
	wantCosts(t, 3, 5, 9, 3, 1, 1)
	wantCosts(t, -7, 5, 45, -5, 5, 7)
	wantCosts(t, 7, 5, 45, 5, 5, 7)
	wantCosts(t, 7, 0, 0, 0, 0, 7)
	wantCosts(t, -7, 0, 0, 0, 0, 7)
	wantCosts(t, 0, 0, 0, 0, 1, 1)
	wantCosts(t, 0, 5, 0, 0, 1, 1)
	wantCosts(t, 5, 5, 25, 5, 1, 1)
	wantCosts(t, -5, 5, 25, -5, 1, 1)
	wantCosts(t, 6, 5, 35, 5, 5, 6)
	wantCosts(t, 10, 5, 75, 5, 5, 10) // not 1 over 2
}

// I1, I2: what is handed in is cut ahead of all else, and nothing wraps round at the ends.
func TestResidualsAndKneesAreCut(t *testing.T) {
	square := most * most
	for _, r := range []int64{most, most + 1, 1 << 40, math.MaxInt64} {
		for _, k := range []int64{most, most + 1, 1 << 40, math.MaxInt64} {
			wantCosts(t, r, k, square, most, 1, 1)
			wantCosts(t, -r, k, square, -most, 1, 1)
		}
		for _, k := range []int64{0, -1, -most, -most - 1, math.MinInt64} {
			wantCosts(t, r, k, 0, 0, 0, most)
			wantCosts(t, -r, k, 0, 0, 0, most)
		}
		wantCosts(t, r, most-1, square-1, most-1, most-1, most)
		wantCosts(t, -r, 1, 2*most-1, -1, 1, most)
	}
	wantCosts(t, math.MinInt64, math.MaxInt64, square, -most, 1, 1)
	wantCosts(t, math.MinInt64, math.MinInt64, 0, 0, 0, most)
	wantCosts(t, math.MinInt64, most-1, square-1, 1-most, most-1, most)
	wantCosts(t, 3, -4, 0, 0, 0, 3)
	wantCosts(t, 0, -4, 0, 0, 1, 1)
}

// I1, I2: all pairs are as exact numbers tell them.
func TestCostsAreThoseOfExactNumbers(t *testing.T) {
	for _, r := range residuals() {
		for _, k := range residuals() {
			want := promise(r, k)
			num, den := Weight(r, k)
			if !same(Rho(r, k), want.rho) || !same(Slope(r, k), want.slope) || !same(num, want.num) || !same(den, want.den) {
				t.Errorf("%d, %d: Rho %d, Slope %d, Weight %d over %d; not %v", r, k, Rho(r, k), Slope(r, k), num, den, want)
			}
		}
	}
}

// I3: the document's examples, and both signs, the knee itself, a knee of 0.
func TestBoundsAreThoseOfTheDocument(t *testing.T) {
	wantBound(t, 2, 7, 5, 90, 7, api.OK)
	wantBound(t, 7, 7, 5, 315, 7, api.OK)
	wantBound(t, 9, -7, 5, 475, 7, api.OK)
	wantBound(t, -9, 7, 5, 475, 7, api.OK)
	wantBound(t, 2, 3, 5, 4, 1, api.OK)
	wantBound(t, 2, 5, 5, 4, 1, api.OK)
	wantBound(t, 9, -5, 5, 81, 1, api.OK)
	wantBound(t, 9, 0, 0, 81, 1, api.OK)
	wantBound(t, 0, 10, 5, 250, 10, api.OK)
	wantBound(t, 3, 7, 0, 0, 7, api.OK)
}

// I3: all that Bound takes is as exact numbers tell it, and over at's Weight.
func TestBoundsAreThoseOfExactNumbers(t *testing.T) {
	for _, at := range near() {
		for _, k := range knees() {
			want := promise(at, k)
			_, over := Weight(at, k)
			for _, r := range near() {
				num, den := bound(t, r, at, k)
				b := product(want.num, product(big.NewInt(r), big.NewInt(r)))
				if !same(num, b.Add(b, want.lift)) || !same(den, want.den) || den != over {
					t.Errorf("Bound(%d, %d, %d): %d over %d, not %v over %v", r, at, k, num, den, b, want.den)
				}
			}
		}
	}
}

// I3: the farthest numbers are taken, the next ones are not, each in its place; they are not cut to be taken.
func TestBoundTellsWhatIsTooWide(t *testing.T) {
	const end = 32768
	for _, r := range []int64{-end, 0, end} {
		for _, at := range []int64{-end, 0, end} {
			for _, k := range []int64{0, 1, end} {
				bound(t, r, at, k)
			}
		}
	}
	wantBound(t, end, -end, end, end*end, 1, api.OK)
	wantBound(t, -end, end, end-1, (end-1)*end*end+end*(end-1), end, api.OK)
	for _, wide := range []int64{end + 1, 1 << 20, most, most + 1, math.MaxInt64} {
		for _, n := range []int64{wide, -wide, -wide - 1} {
			wantBound(t, n, 0, 0, 0, 0, api.ErrWide)
			wantBound(t, 1, n, 5, 0, 0, api.ErrWide)
			wantBound(t, 1, 7, n, 0, 0, api.ErrWide)
			wantBound(t, n, n, n, 0, 0, api.ErrWide)
		}
	}
	wantBound(t, 0, 0, -1, 0, 0, api.ErrWide)
	wantBound(t, 2, 7, -5, 0, 0, api.ErrWide)
	wantBound(t, 2, 7, -end, 0, 0, api.ErrWide)
}

// I4: Rho is not above the square, is even, and grows.
func TestRhoLiesUnderTheSquare(t *testing.T) {
	for _, k := range residuals() {
		for _, r := range residuals() {
			rho, cut := Rho(r, k), max(-most, min(r, most))
			if rho < 0 || rho > cut*cut {
				t.Errorf("Rho(%d, %d): %d", r, k, rho)
			}
			if rho != Rho(-r, k) {
				t.Errorf("Rho(%d, %d): %d, but of the other sign %d", r, k, rho, Rho(-r, k))
			}
			if r < math.MaxInt64 && r >= 0 && Rho(r+1, k) < rho {
				t.Errorf("Rho(%d, %d): %d, but of one more %d", r, k, rho, Rho(r+1, k))
			}
			if k < math.MaxInt64 && Rho(r, k+1) < rho {
				t.Errorf("Rho(%d, %d): %d, but with a greater knee %d", r, k, rho, Rho(r, k+1))
			}
		}
	}
}

// I4: Rho of a middle is not above the mean; just below it, where some of the square's part is between.
func TestRhoLiesUnderItsChords(t *testing.T) {
	ends := []int64{0, most, -most, most - 2, 2 - most}
	for _, n := range residuals() {
		if -most <= n && n <= most {
			ends = append(ends, n)
		}
	}
	for _, k := range ends {
		for _, low := range ends {
			for _, high := range ends {
				if low < high && (high-low)%2 == 0 {
					wantBelowChord(t, low, high, max(k, -k))
				}
			}
		}
	}
}

func wantBelowChord(t *testing.T, low, high, k int64) {
	t.Helper()
	mid := (low + high) / 2
	// Of differences nothing wraps round, as the ends' sum would.
	up, more := Rho(mid, k)-Rho(low, k), Rho(high, k)-Rho(mid, k)
	if curved := k > 0 && low < k && high > -k; up > more || curved != (up < more) {
		t.Errorf("with a knee of %d, Rho grows by %d from %d to %d, then by %d to %d", k, up, low, mid, more, high)
	}
}

// I3, I4: the parabola is Rho at `at`, as steep there, and nowhere below it.
func TestParabolasTouchRhoFromAbove(t *testing.T) {
	for _, at := range near() {
		for _, k := range knees() {
			if num, den := bound(t, at, at, k); num != den*Rho(at, k) {
				t.Errorf("Bound(%d, %d, %d): %d over %d, not Rho %d", at, at, k, num, den, Rho(at, k))
			}
			if at > -32768 && at < 32768 {
				below, den := bound(t, at-1, at, k)
				above, _ := bound(t, at+1, at, k)
				if above-below != 4*den*Slope(at, k) {
					t.Errorf("at %d with a knee of %d: from %d to %d over %d, not as steep as %d", at, k, below, above, den, Slope(at, k))
				}
			}
			for _, r := range near() {
				if num, den := bound(t, r, at, k); num < den*Rho(r, k) {
					t.Errorf("Bound(%d, %d, %d): %d over %d is below Rho %d", r, at, k, num, den, Rho(r, k))
				}
			}
		}
	}
}
