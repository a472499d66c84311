package long

import (
	"strings"

	"gimbal/api"
)

// Digits are read and written in groups: 10^9 is the greatest power of ten that a part holds.
const (
	groupDigits = 9
	groupBase   = 1_000_000_000
)

// Parse reads a number as String writes it. It tells ErrLong if the text has
// more than MaxDigits bytes, ErrText if it is no number.
func Parse(s string) (Int, api.Errno) {
	if len(s) > api.MaxDigits {
		return Int{}, api.ErrLong
	}
	digits, below := strings.CutPrefix(s, "-")
	if !wellWritten(digits, below) {
		return Int{}, api.ErrText
	}
	return made(below, readDigits(digits)), api.OK
}

// wellWritten tells whether these are digits, and the only ones in which the number may be written.
func wellWritten(digits string, below bool) bool {
	if digits == "" {
		return false
	}
	for i := range len(digits) {
		if digits[i] < '0' || digits[i] > '9' {
			return false
		}
	}
	if digits[0] == '0' {
		return len(digits) == 1 && !below
	}
	return true
}

// readDigits are the parts of what is written, a group at a time, the first one being the one that may be shorter.
func readDigits(digits string) []uint32 {
	var parts []uint32
	for len(digits) > 0 {
		n := (len(digits)-1)%groupDigits + 1
		parts = groupBehind(parts, groupOf(digits[:n]))
		digits = digits[n:]
	}
	return parts
}

// groupOf is the number that a group's digits tell.
func groupOf(digits string) uint32 {
	var n uint32
	for i := range len(digits) {
		n = n*10 + uint32(digits[i]-'0')
	}
	return n
}

// groupBehind is p with a group's digits behind its own ones.
func groupBehind(p []uint32, group uint32) []uint32 {
	out := make([]uint32, len(p)+1)
	carry := uint64(group)
	for i, part := range p {
		carry += uint64(part) * groupBase
		out[i] = uint32(carry)
		carry >>= partBits
	}
	out[len(p)] = uint32(carry)
	return trimmed(out)
}

// String writes x in decimal digits.
func (x Int) String() string {
	if x.Sign() == 0 {
		return "0"
	}
	digits := strings.TrimLeft(written(groupsOf(x.parts)), "0")
	if x.below {
		return "-" + digits
	}
	return digits
}

// groupsOf are p's groups of digits, the lowest one first.
func groupsOf(p []uint32) []uint32 {
	var groups []uint32
	rest := copied(p)
	for len(rest) > 0 {
		groups = append(groups, divideBy(rest, groupBase))
		rest = trimmed(rest)
	}
	return groups
}

// written are the groups' digits, with noughts ahead where the first group has less: set from the last one on.
func written(groups []uint32) string {
	text := make([]byte, groupDigits*len(groups))
	var group uint32
	for i := range len(text) {
		if i%groupDigits == 0 {
			group = groups[i/groupDigits]
		}
		text[len(text)-1-i] = '0' + byte(group%10)
		group /= 10
	}
	return string(text)
}
