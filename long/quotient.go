package long

import "math/bits"

// quotient is how many times b goes into a, and what is left; b is not 0.
func quotient(a, b []uint32) (q, rest []uint32) {
	if compare(a, b) < 0 {
		return nil, copied(a)
	}
	if len(b) == 1 {
		q = copied(a)
		left := divideBy(q, b[0])
		return trimmed(q), trimmed([]uint32{left})
	}
	// With the divisor's top binary digit set, a part that is guessed from the
	// upper parts alone is too great by 2 at most.
	by := bits.LeadingZeros32(b[len(b)-1])
	divisor := trimmed(raised(b, by))
	rest = raised(a, by)
	q = make([]uint32, len(a)-len(b)+1)
	for i := range len(q) {
		at := len(q) - 1 - i
		q[at] = nextPart(rest[at:at+len(divisor)+1], divisor)
	}
	return trimmed(q), lowered(trimmed(rest), by)
}

// divideBy divides p on the spot, and tells what is left.
func divideBy(p []uint32, by uint32) uint32 {
	var left uint64
	for i := len(p) - 1; i >= 0; i-- {
		left = left<<partBits | uint64(p[i])
		p[i] = uint32(left / uint64(by))
		left %= uint64(by)
	}
	return uint32(left)
}

// nextPart is how many times the divisor goes into rest, which has one part
// more; that much is taken off rest.
func nextPart(rest, divisor []uint32) uint32 {
	guess := guessed(rest, divisor)
	if takeTimes(rest, divisor, guess) {
		guess--
		addBack(rest, divisor)
	}
	return uint32(guess)
}

// guessed is nextPart, or 1 more: told by the upper three parts of rest and the upper two of the divisor.
func guessed(rest, divisor []uint32) uint64 {
	n := len(divisor)
	top, next := uint64(divisor[n-1]), uint64(divisor[n-2])
	head := uint64(rest[n])<<partBits | uint64(rest[n-1])
	guess := min(head/top, 1<<partBits-1)
	left := head - guess*top
	for left < 1<<partBits && guess*next > left<<partBits|uint64(rest[n-2]) {
		guess--
		left += top
	}
	return guess
}

// takeTimes takes the divisor so many times off rest, and tells whether that went below 0 and wrapped round.
func takeTimes(rest, divisor []uint32, times uint64) bool {
	var carry uint64
	for i, part := range divisor {
		carry += times * uint64(part)
		low := uint32(carry)
		carry >>= partBits
		if rest[i] < low {
			carry++
		}
		rest[i] -= low
	}
	top := len(divisor)
	below := uint64(rest[top]) < carry
	rest[top] -= uint32(carry)
	return below
}

// addBack undoes one time too many; what is carried out at the top is what wrapped round.
func addBack(rest, divisor []uint32) {
	var carry uint64
	for i, part := range divisor {
		carry += uint64(rest[i]) + uint64(part)
		rest[i] = uint32(carry)
		carry >>= partBits
	}
	rest[len(divisor)] += uint32(carry)
}

// root is the greatest number whose square is not above p.
func root(p []uint32) []uint32 {
	if len(p) == 0 {
		return nil
	}
	// From above the root each better guess is less, till none is.
	guess := powerOfTwo((bitCount(p) + 1) / 2)
	for {
		over, _ := quotient(p, guess)
		better := lowered(sum(guess, over), 1)
		if compare(better, guess) >= 0 {
			return guess
		}
		guess = better
	}
}

// powerOfTwo is 2^n.
func powerOfTwo(n int) []uint32 {
	out := make([]uint32, n/partBits+1)
	out[n/partBits] = 1 << (n % partBits)
	return out
}
