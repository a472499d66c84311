// Package long is layer 1, whole numbers of any size: see shared/doc/01-long.md.
package long

import (
	"math"

	"gimbal/api"
)

// Int is a whole number. Its zero value is 0.
//
// The parts hold 32 binary digits each, the lowest ones first. The last part
// is never 0, and 0 has no parts and no sign, so that each number has one form.
type Int struct {
	below bool
	parts []uint32
}

// made brings a number into its one form.
func made(below bool, parts []uint32) Int {
	parts = trimmed(parts)
	if len(parts) == 0 {
		return Int{}
	}
	return Int{below: below, parts: parts}
}

// Of is the number n.
func Of(n int64) Int {
	size := uint64(n)
	if n < 0 {
		// Negated as a uint64, for the least int64 has no contrary of its kind.
		size = -size
	}
	return made(n < 0, []uint32{uint32(size), uint32(size >> partBits)})
}

// Sign is -1, 0 or 1: whether x is below, equal to or above 0.
func (x Int) Sign() int {
	switch {
	case x.below:
		return -1
	case len(x.parts) == 0:
		return 0
	}
	return 1
}

// Cmp is -1, 0 or 1: whether x is below, equal to or above y.
func (x Int) Cmp(y Int) int {
	switch {
	case x.below && y.below:
		return compare(y.parts, x.parts)
	case x.below:
		return -1
	case y.below:
		return 1
	}
	return compare(x.parts, y.parts)
}

// Neg is -x.
func (x Int) Neg() Int {
	return made(!x.below, copied(x.parts))
}

// Add is x + y.
func (x Int) Add(y Int) Int {
	if x.below == y.below {
		return made(x.below, sum(x.parts, y.parts))
	}
	if compare(x.parts, y.parts) < 0 {
		return made(y.below, difference(y.parts, x.parts))
	}
	return made(x.below, difference(x.parts, y.parts))
}

// Sub is x - y.
func (x Int) Sub(y Int) Int {
	return x.Add(y.Neg())
}

// Mul is x times y.
func (x Int) Mul(y Int) Int {
	return made(x.below != y.below, product(x.parts, y.parts))
}

// Quo is the greatest whole q that is not above x / y, and the rest r = x - q y,
// which has y's sign or is 0. It tells ErrZero if y is 0.
func (x Int) Quo(y Int) (q, r Int, e api.Errno) {
	if y.Sign() == 0 {
		return Int{}, Int{}, api.ErrZero
	}
	over, rest := quotient(x.parts, y.parts)
	q = made(x.below != y.below, over)
	r = made(x.below, rest)
	if r.Sign() != 0 && x.below != y.below {
		// The parts were divided towards 0; what is below 0 lies one further down.
		q = q.Sub(Of(1))
		r = r.Add(y)
	}
	return q, r, api.OK
}

// Root is the greatest number whose square is not above x. It tells ErrBelow if x is below 0.
func (x Int) Root() (Int, api.Errno) {
	if x.below {
		return Int{}, api.ErrBelow
	}
	return made(false, root(x.parts)), api.OK
}

// Bits is how many binary digits x has without its sign.
func (x Int) Bits() int {
	return bitCount(x.parts)
}

// Small is x as an int64, and true; 0 and false if it is none.
func (x Int) Small() (int64, bool) {
	if len(x.parts) > 2 {
		return 0, false
	}
	var size uint64
	for i, part := range x.parts {
		size |= uint64(part) << (partBits * i)
	}
	most := uint64(math.MaxInt64)
	if x.below {
		most++
	}
	if size > most {
		return 0, false
	}
	if x.below {
		size = -size
	}
	return int64(size), true
}
