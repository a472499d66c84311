package long

import "math/bits"

// partBits is how many binary digits a part holds: two parts multiplied, and
// two more added, fit a uint64.
const partBits = 32

// trimmed is p without noughts at its upper end.
func trimmed(p []uint32) []uint32 {
	n := len(p)
	for n > 0 && p[n-1] == 0 {
		n--
	}
	return p[:n]
}

// copied is p in new memory, which may be changed.
func copied(p []uint32) []uint32 {
	out := make([]uint32, len(p))
	copy(out, p)
	return out
}

// bitCount is how many binary digits p has.
func bitCount(p []uint32) int {
	if len(p) == 0 {
		return 0
	}
	top := len(p) - 1
	return partBits*top + bits.Len32(p[top])
}

// compare holds two trimmed lists of parts against one another.
func compare(a, b []uint32) int {
	if len(a) != len(b) {
		if len(a) < len(b) {
			return -1
		}
		return 1
	}
	for i := len(a) - 1; i >= 0; i-- {
		if a[i] < b[i] {
			return -1
		}
		if a[i] > b[i] {
			return 1
		}
	}
	return 0
}

// sum is a + b.
func sum(a, b []uint32) []uint32 {
	if len(a) < len(b) {
		a, b = b, a
	}
	out := make([]uint32, len(a)+1)
	copy(out, a)
	var carry uint64
	for i := range len(a) {
		carry += uint64(out[i])
		if i < len(b) {
			carry += uint64(b[i])
		}
		out[i] = uint32(carry)
		carry >>= partBits
	}
	out[len(a)] = uint32(carry)
	return trimmed(out)
}

// difference is a - b; a must not be less than b.
func difference(a, b []uint32) []uint32 {
	out := copied(a)
	var borrow uint32
	for i := range len(out) {
		take := uint64(borrow)
		if i < len(b) {
			take += uint64(b[i])
		}
		borrow = 0
		if uint64(out[i]) < take {
			borrow = 1
		}
		out[i] -= uint32(take)
	}
	return trimmed(out)
}

// product is a times b.
func product(a, b []uint32) []uint32 {
	out := make([]uint32, len(a)+len(b))
	for i, times := range a {
		var carry uint64
		for j, part := range b {
			carry += uint64(times)*uint64(part) + uint64(out[i+j])
			out[i+j] = uint32(carry)
			carry >>= partBits
		}
		out[i+len(b)] = uint32(carry)
	}
	return trimmed(out)
}

// raised is p times 2^by, with a part more than p has; by is below 32.
func raised(p []uint32, by int) []uint32 {
	out := make([]uint32, len(p)+1)
	var carry uint32
	for i, part := range p {
		out[i] = part<<by | carry
		carry = part >> (partBits - by)
	}
	out[len(p)] = carry
	return out
}

// lowered is p without its lowest binary digits; by is below 32.
func lowered(p []uint32, by int) []uint32 {
	out := copied(p)
	for i := range len(out) {
		out[i] >>= by
		if i+1 < len(p) {
			out[i] |= p[i+1] << (partBits - by)
		}
	}
	return trimmed(out)
}
