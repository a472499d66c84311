package span

import (
	"gimbal/api"
	"gimbal/fx"
)

// Neg is the tightest span of all -a.
func (x Span) Neg() Span {
	x = x.counted()
	if x == whole() {
		return whole()
	}
	return Of(-x.Lo, -x.Hi)
}

// Add is the tightest span of all a + b.
func (x Span) Add(y Span) Span {
	return fromEnds(x, y, func(a, b int64) Span {
		n, cut := fx.Add(a, b)
		return unlessCut(n, n, cut)
	})
}

// Sub is the tightest span of all a - b.
func (x Span) Sub(y Span) Span {
	return x.Add(y.Neg())
}

// Mul is the tightest span of all a b.
func (x Span) Mul(y Span) Span {
	return fromEnds(x, y, product)
}

// Div is the tightest span of all a / b; the whole line, if y has 0.
func (x Span) Div(y Span) Span {
	if y.Has(0) {
		return whole()
	}
	return fromEnds(x, y, func(a, b int64) Span {
		// No error is asked for: b is in y, which has no 0.
		down, first, _ := fx.Div(a, b)
		up, second, _ := fx.Div(-a, b)
		return unlessCut(down, -up, first || second)
	})
}

// Sqr is the tightest span of all a a.
func (x Span) Sqr() Span {
	x = x.counted()
	if x == whole() {
		return whole()
	}
	squares := product(x.Lo, x.Lo).Join(product(x.Hi, x.Hi))
	if x.Has(0) {
		// Squares fall towards 0: there the least one is not at an end.
		return squares.Join(Of(0, 0))
	}
	return squares
}

// Sqrt is the tightest span of the square roots of what is not below 0 in x;
// the whole line, if there is nothing.
func (x Span) Sqrt() Span {
	x = x.counted()
	if x == whole() || x.Hi < 0 {
		return whole()
	}
	return root(max(x.Lo, 0)).Join(root(x.Hi))
}

// fromEnds is the tightest span of what comes of two spans by a rule, which
// tells that of two numbers. The rule must only rise or only fall along either
// number while the other one stays: then nothing lies beyond what comes of ends.
func fromEnds(x, y Span, rule func(a, b int64) Span) Span {
	x, y = x.counted(), y.counted()
	if x == whole() || y == whole() {
		return whole()
	}
	ends := [4]Span{rule(x.Lo, y.Lo), rule(x.Lo, y.Hi), rule(x.Hi, y.Lo), rule(x.Hi, y.Hi)}
	out := ends[0]
	for _, end := range ends {
		out = out.Join(end)
	}
	return out
}

// product is the tightest span of a b. What is rounded down of -a b is, without
// the sign, what is rounded up of a b.
func product(a, b int64) Span {
	down, first := fx.Mul(a, b)
	up, second := fx.Mul(-a, b)
	return unlessCut(down, -up, first || second)
}

// root is the tightest span of the square root of a, which is not below 0.
func root(a int64) Span {
	n, _, _ := fx.Sqrt(a)
	if n*n == a*api.One {
		return Of(n, n)
	}
	return Of(n, n+1)
}

// unlessCut is the span from lo to hi; the whole line, if one of them was cut,
// for then no fixed number lies beyond what they stood for.
func unlessCut(lo, hi int64, cut bool) Span {
	if cut {
		return whole()
	}
	return Of(lo, hi)
}
