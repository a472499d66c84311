package long

import (
	"math"
	"math/big"
	"reflect"
	"strings"
	"testing"

	"gimbal/api"
)

// read is the number that a text tells, which must be one.
func read(t *testing.T, s string) Int {
	t.Helper()
	x, e := Parse(s)
	if e != api.OK {
		t.Fatalf("Parse(%q): %v", s, e)
	}
	return x
}

// fromBig is a number of any size, put together without Parse, which has a limit.
func fromBig(b *big.Int) Int {
	size := new(big.Int).Abs(b)
	var parts []uint32
	for size.Sign() > 0 {
		parts = append(parts, uint32(size.Uint64()))
		size.Rsh(size, 32)
	}
	return made(b.Sign() < 0, parts)
}

// wantInt holds a number, and its form, against the one that it should be.
func wantInt(t *testing.T, what string, got Int, want *big.Int) {
	t.Helper()
	if !reflect.DeepEqual(got, fromBig(want)) {
		t.Errorf("%s: %v, not %v", what, got, want)
	}
}

// sizes are numbers from 0 on: those at which parts and groups of digits begin and end, those at which guesses of
// parts fail, and numbers of many parts.
func sizes() []*big.Int {
	one := big.NewInt(1)
	var out []*big.Int
	add := func(b *big.Int) { out = append(out, b) }
	for n := range int64(12) {
		add(big.NewInt(n))
	}
	for _, bits := range []uint{16, 31, 32, 33, 62, 63, 64, 65, 95, 96, 97, 128, 160, 1024, 2112} {
		p := new(big.Int).Lsh(one, bits)
		add(new(big.Int).Sub(p, one))
		add(p)
		add(new(big.Int).Add(p, one))
	}
	for _, digits := range []int64{8, 9, 10, 17, 18, 19, 27, 100, 1999, 2400} {
		p := new(big.Int).Exp(big.NewInt(10), big.NewInt(digits), nil)
		add(new(big.Int).Sub(p, one))
		add(p)
	}
	for _, hex := range []string{
		"7fffffff800000000000000000000000", "800000000000000000000001",
		"800000000000000000000003", "200000000000000000000001",
		"7fffffff00000000ffffffff00000000", "8000000000000000ffffffff",
		"fffffffeffffffff00000000", "ffffffff00000001", "ffffffffffffffff",
		"ffffffff000000000000000000000000fffffffe", "80000000ffffffffffffffff", "8000000000000001",
	} {
		b, _ := new(big.Int).SetString(hex, 16)
		add(b)
	}
	seed := uint64(88172645463325252)
	for n := range 60 {
		b := new(big.Int)
		for range n%20 + 1 {
			seed ^= seed << 13
			seed ^= seed >> 7
			seed ^= seed << 17
			b.Lsh(b, 32).Or(b, big.NewInt(int64(uint32(seed>>16))))
		}
		add(b)
	}
	return out
}

// signed are sizes, and what is as far below 0.
func signed() []*big.Int {
	var out []*big.Int
	for _, b := range sizes() {
		out = append(out, b)
		if b.Sign() != 0 {
			out = append(out, new(big.Int).Neg(b))
		}
	}
	return out
}

func TestZeroValueIsZero(t *testing.T) {
	var x Int
	if x.String() != "0" || x.Sign() != 0 || x.Bits() != 0 || x.Cmp(Of(0)) != 0 {
		t.Error(x.String(), x.Sign(), x.Bits())
	}
	if n, ok := x.Small(); n != 0 || !ok {
		t.Error(n, ok)
	}
	if r, e := x.Root(); r.Sign() != 0 || e != api.OK {
		t.Error(r, e)
	}
	if q, r, e := x.Quo(Of(-5)); q.Sign() != 0 || r.Sign() != 0 || e != api.OK {
		t.Error(q, r, e)
	}
	five := Of(5)
	for what, got := range map[string]Int{
		"0 + 5": x.Add(five), "5 + 0": five.Add(x), "5 - 0": five.Sub(x), "-(0 - 5)": x.Sub(five).Neg(),
	} {
		if got.Cmp(five) != 0 {
			t.Error(what, got)
		}
	}
}

// Whatever way leads to 0, it has one form, without a sign.
func TestEachZeroIsTheSame(t *testing.T) {
	far := read(t, "-"+strings.Repeat("9", 50))
	q, r, _ := Of(3).Quo(far.Mul(far))
	_, none, _ := far.Quo(Of(-1))
	root, _ := Int{}.Root()
	for i, x := range []Int{Of(0), read(t, "0"), Int{}.Neg(), far.Add(far.Neg()), far.Sub(far), far.Mul(Int{}), Int{}.Mul(far), q, r.Sub(Of(3)), none, root} {
		if !reflect.DeepEqual(x, Int{}) || x.String() != "0" || x.Sign() != 0 {
			t.Error(i, x)
		}
	}
}

func TestOf(t *testing.T) {
	for n, want := range map[int64]string{
		0: "0", 1: "1", -1: "-1", 9: "9", 10: "10", -10: "-10", 999999999: "999999999", 1000000000: "1000000000",
		1000000001: "1000000001", math.MaxUint32: "4294967295", math.MaxUint32 + 1: "4294967296",
		math.MaxInt64: "9223372036854775807", math.MaxInt64 - 1: "9223372036854775806",
		math.MinInt64: "-9223372036854775808", math.MinInt64 + 1: "-9223372036854775807",
	} {
		if s := Of(n).String(); s != want {
			t.Errorf("Of(%d): %s", n, s)
		}
		wantInt(t, "Of", Of(n), big.NewInt(n))
	}
}

func TestParseAndString(t *testing.T) {
	for _, b := range signed() {
		s := b.String()
		if got := fromBig(b).String(); got != s {
			t.Errorf("String: %s, not %s", got, s)
		}
		if len(s) <= api.MaxDigits {
			wantInt(t, "Parse", read(t, s), b)
		} else if x, e := Parse(s); e != api.ErrLong || !reflect.DeepEqual(x, Int{}) {
			t.Errorf("Parse of %d bytes: %v, %v", len(s), x, e)
		}
	}
	for n := 1; n <= 40; n++ {
		for _, s := range []string{strings.Repeat("9", n), "-1" + strings.Repeat("0", n), "1" + strings.Repeat("0", n) + "7"} {
			if got := read(t, s).String(); got != s {
				t.Errorf("%s: %s", s, got)
			}
		}
	}
}

func TestParseLimit(t *testing.T) {
	nines := strings.Repeat("9", 2001)
	for _, s := range []string{nines[:2000], "-" + nines[:1999], "1" + strings.Repeat("0", 1999)} {
		if got := read(t, s).String(); len(s) != 2000 || got != s {
			t.Errorf("%d bytes: %s", len(s), got)
		}
	}
	// What is too long is that first, whatever it says.
	for _, s := range []string{nines, "-" + nines[:2000], strings.Repeat("0", 2001), strings.Repeat("x", 2001), strings.Repeat("-", 5000), string(make([]byte, 2001))} {
		if x, e := Parse(s); e != api.ErrLong || !reflect.DeepEqual(x, Int{}) {
			t.Errorf("%d bytes: %v, %v", len(s), x, e)
		}
	}
	for _, s := range []string{strings.Repeat("0", 2000), "0" + nines[:1999], "+" + nines[:1999], nines[:1999] + " ", "-0" + nines[:1998], strings.Repeat("-", 2000)} {
		if x, e := Parse(s); e != api.ErrText || !reflect.DeepEqual(x, Int{}) {
			t.Errorf("%d bytes: %v, %v", len(s), x, e)
		}
	}
}

func TestParseWrong(t *testing.T) {
	for _, s := range []string{
		"", "-", "-0", "01", "+1", "+0", "00", "-00", "-01", "--1", "-+1", "1-", "1-2", " 1", "1 ", "- 1", "\n1", "1\n", "1.0", ".", "1,000",
		"1_000", "1e3", "0x10", "a", "1a", "a1", "12345678a", "a23456789", "123456789:", "123456789/", "1\x00", "\x00", "\xff",
		"\u0661", "1\u0662", "\uff11", "\u22121", "NaN", "inf",
	} {
		if x, e := Parse(s); e != api.ErrText || !reflect.DeepEqual(x, Int{}) {
			t.Errorf("Parse(%q): %v, %v", s, x, e)
		}
	}
	for b := range 256 {
		s := "1" + string([]byte{byte(b)})
		_, e := Parse(s)
		if digit := b >= '0' && b <= '9'; (e == api.OK) != digit {
			t.Errorf("Parse(%q): %v", s, e)
		}
	}
}

func TestSignAndNeg(t *testing.T) {
	for _, b := range signed() {
		x := fromBig(b)
		if x.Sign() != b.Sign() {
			t.Error(b, x.Sign())
		}
		wantInt(t, "Neg", x.Neg(), new(big.Int).Neg(b))
		wantInt(t, "Neg Neg", x.Neg().Neg(), b)
	}
	wantInt(t, "Neg of the least int64", Of(math.MinInt64).Neg(), new(big.Int).Lsh(big.NewInt(1), 63))
}

func TestTwoNumbers(t *testing.T) {
	all := signed()
	for _, a := range all {
		for _, b := range all {
			x, y := fromBig(a), fromBig(b)
			if x.Cmp(y) != a.Cmp(b) {
				t.Errorf("%v Cmp %v: %d", a, b, x.Cmp(y))
			}
			wantInt(t, "Add", x.Add(y), new(big.Int).Add(a, b))
			wantInt(t, "Sub", x.Sub(y), new(big.Int).Sub(a, b))
			wantInt(t, "Mul", x.Mul(y), new(big.Int).Mul(a, b))
			wantQuo(t, a, b)
			if t.Failed() {
				t.Fatalf("with %v and %v", a, b)
			}
		}
	}
}

// wantQuo holds Quo against its promise, and against the library's quotient, which is rounded otherwise.
func wantQuo(t *testing.T, a, b *big.Int) {
	t.Helper()
	x, y := fromBig(a), fromBig(b)
	q, r, e := x.Quo(y)
	if b.Sign() == 0 {
		if e != api.ErrZero || !reflect.DeepEqual(q, Int{}) || !reflect.DeepEqual(r, Int{}) {
			t.Errorf("%v Quo 0: %v, %v, %v", a, q, r, e)
		}
		return
	}
	over, rest := new(big.Int).QuoRem(a, b, new(big.Int))
	if rest.Sign()*b.Sign() < 0 {
		over.Sub(over, big.NewInt(1))
		rest.Add(rest, b)
	}
	if e != api.OK {
		t.Errorf("%v Quo %v: %v", a, b, e)
	}
	wantInt(t, "Quo", q, over)
	wantInt(t, "Quo's rest", r, rest)
	if q.Mul(y).Add(r).Cmp(x) != 0 || r.Sign() != 0 && r.Sign() != y.Sign() {
		t.Errorf("%v Quo %v: %v, %v", a, b, q, r)
	}
	if fromBig(new(big.Int).Abs(rest)).Cmp(fromBig(new(big.Int).Abs(b))) >= 0 {
		t.Errorf("%v Quo %v: the rest %v is too far from 0", a, b, r)
	}
}

func TestQuoSigns(t *testing.T) {
	for _, x := range [][4]int64{
		{7, 2, 3, 1}, {-7, 2, -4, 1}, {7, -2, -4, -1}, {-7, -2, 3, -1},
		{6, 2, 3, 0}, {-6, 2, -3, 0}, {6, -2, -3, 0}, {-6, -2, 3, 0},
		{1, 5, 0, 1}, {-1, 5, -1, 4}, {1, -5, -1, -4}, {-1, -5, 0, -1},
		{0, 3, 0, 0}, {0, -3, 0, 0},
		{math.MinInt64, 1, math.MinInt64, 0}, {math.MinInt64, math.MinInt64, 1, 0}, {math.MinInt64, math.MaxInt64, -2, math.MaxInt64 - 1},
		{math.MaxInt64, math.MinInt64, -1, -1},
	} {
		q, r, e := Of(x[0]).Quo(Of(x[1]))
		if q.Cmp(Of(x[2])) != 0 || r.Cmp(Of(x[3])) != 0 || e != api.OK {
			t.Errorf("%d Quo %d: %v, %v, %v", x[0], x[1], q, r, e)
		}
	}
	q, r, e := Of(math.MinInt64).Quo(Of(-1))
	if q.String() != "9223372036854775808" || r.Sign() != 0 || e != api.OK {
		t.Error(q, r, e)
	}
}

func TestQuoByZero(t *testing.T) {
	for _, x := range []Int{{}, Of(0), Of(5), Of(-5), read(t, strings.Repeat("7", 2000))} {
		for _, zero := range []Int{{}, Of(0), Of(1).Sub(Of(1))} {
			q, r, e := x.Quo(zero)
			if e != api.ErrZero || !reflect.DeepEqual(q, Int{}) || !reflect.DeepEqual(r, Int{}) {
				t.Error(x, q, r, e)
			}
		}
	}
}

func TestRoot(t *testing.T) {
	one := big.NewInt(1)
	check := func(b *big.Int) {
		x, e := fromBig(b).Root()
		if b.Sign() < 0 {
			if e != api.ErrBelow || !reflect.DeepEqual(x, Int{}) {
				t.Errorf("Root of %v: %v, %v", b, x, e)
			}
			return
		}
		if e != api.OK {
			t.Errorf("Root of %v: %v", b, e)
		}
		wantInt(t, "Root", x, new(big.Int).Sqrt(b))
	}
	for n := range int64(3000) {
		check(big.NewInt(n))
	}
	for _, b := range signed() {
		square := new(big.Int).Mul(b, b)
		check(b)
		check(square)
		check(new(big.Int).Sub(square, one))
		check(new(big.Int).Add(square, one))
	}
	check(big.NewInt(math.MaxInt64))
	check(big.NewInt(math.MinInt64))
}

func TestBits(t *testing.T) {
	for n, want := range map[int64]int{
		0: 0, 1: 1, -1: 1, 2: 2, 3: 2, 255: 8, -255: 8, 256: 9, -256: 9, math.MaxUint32: 32, math.MaxUint32 + 1: 33,
		math.MaxInt64: 63, math.MinInt64: 64, math.MinInt64 + 1: 63,
	} {
		if got := Of(n).Bits(); got != want {
			t.Errorf("Bits of %d: %d", n, got)
		}
	}
	for _, b := range signed() {
		if got := fromBig(b).Bits(); got != b.BitLen() {
			t.Errorf("Bits of %v: %d", b, got)
		}
	}
}

func TestSmall(t *testing.T) {
	for _, b := range signed() {
		n, ok := fromBig(b).Small()
		if ok != b.IsInt64() || ok && n != b.Int64() || !ok && n != 0 {
			t.Errorf("Small of %v: %d, %v", b, n, ok)
		}
	}
	for s, want := range map[string]bool{
		"9223372036854775806": true, "9223372036854775807": true, "9223372036854775808": false, "18446744073709551615": false,
		"18446744073709551616": false, "-9223372036854775807": true, "-9223372036854775808": true, "-9223372036854775809": false,
		"-18446744073709551616": false, "340282366920938463463374607431768211456": false,
	} {
		x := read(t, s)
		n, ok := x.Small()
		if ok != want || ok && Of(n).String() != s || !ok && n != 0 {
			t.Errorf("Small of %s: %d, %v", s, n, ok)
		}
	}
}

// Sums and products of numbers with thousands of digits, past what Parse reads.
func TestManyParts(t *testing.T) {
	x := read(t, strings.Repeat("9", 2000))
	square := x.Mul(x)
	if want := strings.Repeat("9", 1999) + "8" + strings.Repeat("0", 1999) + "1"; square.String() != want {
		t.Error(square)
	}
	if r, e := square.Root(); r.Cmp(x) != 0 || e != api.OK {
		t.Error(r, e)
	}
	if r, e := square.Sub(Of(1)).Root(); r.Cmp(x.Sub(Of(1))) != 0 || e != api.OK {
		t.Error(r, e)
	}
	q, r, e := square.Neg().Add(Of(5)).Quo(x)
	if q.Cmp(x.Neg()) != 0 || r.Cmp(Of(5)) != 0 || e != api.OK {
		t.Error(q, r, e)
	}
	if got := x.Add(Of(1)).String(); got != "1"+strings.Repeat("0", 2000) {
		t.Error(got)
	}
	if n, ok := square.Small(); n != 0 || ok {
		t.Error(n, ok)
	}
}

// Nothing that is done with a number changes it, nor what came of it before; what is asked again is answered alike.
func TestNumbersStay(t *testing.T) {
	for _, a := range signed() {
		x, y := fromBig(a), read(t, "-340282366920938463463374607431768211457")
		neg, sum, product := x.Neg(), x.Add(Int{}), x.Mul(y)
		q, r, _ := x.Quo(y)
		root, _ := x.Root()
		tell := []string{neg.String(), sum.String(), product.String(), q.String(), r.String(), root.String()}
		for _, z := range []Int{x, y, neg, sum, product, q, r, root} {
			z.Neg()
			z.Add(z)
			z.Sub(y)
			z.Mul(z)
			z.Quo(y)
			y.Quo(z)
			z.Root()
			_ = z.String()
		}
		wantInt(t, "x afterwards", x, a)
		if y.String() != "-340282366920938463463374607431768211457" {
			t.Error(y)
		}
		if got := []string{neg.String(), sum.String(), product.String(), q.String(), r.String(), root.String()}; !reflect.DeepEqual(got, tell) {
			t.Error(a, got, tell)
		}
	}
}

// What is answered has parts of its own, and so have two numbers of one answer.
func TestPartsAreCopied(t *testing.T) {
	for _, s := range []string{"5", "-5", "340282366920938463463374607431768211456", "-" + strings.Repeat("8", 100)} {
		x := read(t, s)
		before := copied(x.parts)
		less, left, _ := x.Quo(read(t, "1"+strings.Repeat("0", 200)))
		q, none, _ := x.Quo(Of(1))
		for _, y := range []Int{x.Neg(), x.Add(Int{}), Int{}.Add(x), x.Sub(Int{}), x.Mul(Of(1)), less, left, q, none} {
			clear(y.parts)
		}
		if !reflect.DeepEqual(x.parts, before) {
			t.Error(s, x.parts)
		}
	}
}

func TestExamples(t *testing.T) {
	if got := Of(10000000000).Mul(Of(10000000000)).String(); got != "100000000000000000000" {
		t.Error(got)
	}
	if r, e := Of(99).Root(); r.String() != "9" || e != api.OK {
		t.Error(r, e)
	}
	if a, b, c := Of(0).Bits(), Of(255).Bits(), Of(-256).Bits(); a != 0 || b != 8 || c != 9 {
		t.Error(a, b, c)
	}
}
