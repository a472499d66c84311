package fx

import (
	"math"
	"strconv"
	"strings"

	"gimbal/api"
	"gimbal/long"
)

// maxBehind is how many digits a text may have behind the point: as many as
// the least step of a fixed number needs.
const maxBehind = 20

// Parse reads a fixed number, rounded down, and tells whether it was cut. It
// tells ErrLong if s has more than MaxFixed bytes, ErrText if it is no number.
func Parse(s string) (n int64, changed bool, e api.Errno) {
	defer cut(&n, &changed)
	if len(s) > api.MaxFixed {
		return 0, false, api.ErrLong
	}
	t, ok := read(s)
	if !ok {
		return 0, false, api.ErrText
	}
	return t.steps(), false, api.OK
}

// Print writes n, cut, as a number that Parse reads.
func Print(n int64) string {
	n, _ = Clamp(n)
	sign := ""
	if n < 0 {
		sign, n = "-", -n
	}
	text := sign + strconv.FormatInt(n/api.One, 10)
	if n%api.One == 0 {
		return text
	}
	return text + "." + fraction(n%api.One)
}

// fraction is the digits of rest / One, which lies between 0 and 1. Each one
// takes a 2 out of what One still divides by: there are 20 at the most.
func fraction(rest int64) string {
	var digits []byte
	for rest != 0 {
		rest *= 10
		digits = append(digits, byte('0'+rest/api.One))
		rest %= api.One
	}
	return string(digits)
}

// written is a text that is a number: its sign, and its digits ahead of the
// point and behind it.
type written struct {
	below         bool
	whole, behind string
}

// read takes a text apart, and tells whether it is a number.
func read(s string) (written, bool) {
	size, below := strings.CutPrefix(s, "-")
	whole, behind, point := strings.Cut(size, ".")
	switch {
	case whole == "" || !digitsAlone(whole) || !digitsAlone(behind):
		return written{}, false
	case whole[0] == '0' && len(whole) > 1:
		return written{}, false
	case point && behind == "" || len(behind) > maxBehind:
		return written{}, false
	case below && withoutNoughts(whole+behind) == "0":
		return written{}, false
	}
	return written{below, whole, behind}, true
}

// steps is the greatest whole number not above what is written, times One. One
// that is no int64 is told as the outermost of its sign, which is cut as well.
func (t written) steps() int64 {
	// No error is asked for: read has seen to it that these are numbers.
	size, _ := long.Parse(withoutNoughts(t.whole + t.behind))
	ten, _ := long.Parse("1" + strings.Repeat("0", len(t.behind)))
	most := int64(math.MaxInt64)
	if t.below {
		size, most = size.Neg(), math.MinInt64
	}
	q, _, _ := size.Mul(long.Of(api.One)).Quo(ten)
	n, ok := q.Small()
	if !ok {
		return most
	}
	return n
}

// withoutNoughts is the digits without the noughts ahead; one is left of 0.
func withoutNoughts(digits string) string {
	digits = strings.TrimLeft(digits, "0")
	if digits == "" {
		return "0"
	}
	return digits
}

func digitsAlone(s string) bool {
	for i := range len(s) {
		if s[i] < '0' || s[i] > '9' {
			return false
		}
	}
	return true
}
