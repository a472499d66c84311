package crc

import (
	"strings"
	"testing"
)

// next is a number that looks like any other one, the same ones in each run.
func next(seed *uint64) uint64 {
	*seed ^= *seed << 13
	*seed ^= *seed >> 7
	*seed ^= *seed << 17
	return *seed
}

// anyText has n bytes of all kinds.
func anyText(seed *uint64, n int) string {
	out := make([]byte, n)
	for i := range out {
		out[i] = byte(next(seed) >> 30)
	}
	return string(out)
}

// texts are of all small lengths and of a few greater ones, with noughts, with what is no UTF-8 and with what is.
func texts() []string {
	seed := uint64(88172645463325252)
	out := []string{
		"\x00", "\x00\x00", "\x00\x00\x00", "\xff", "\xff\xff", "\xff\xff\xff", "\x80", "\x01", "\x00a", "a\x00",
		"123456789", "north, east and down", "\u00e9\u20ac\U0001f600", "\xc3", "\xed\xa0\x80", "\xff\xfea\xc0",
		strings.Repeat("\x00", 300), strings.Repeat("\xff", 300), strings.Repeat("ab", 500),
	}
	for n := range 70 {
		out = append(out, anyText(&seed, n))
	}
	return append(out, anyText(&seed, 255), anyText(&seed, 256), anyText(&seed, 257), anyText(&seed, 5000))
}

// rest is what promise J1 comes to, told in another way: the bits of s, 16 noughts behind them, the sum put to the
// first 16 by exclusive or, are divided by x^16 + x^12 + x^5 + 1; the rest is the sum.
func rest(sum uint16, s string) uint16 {
	bits := make([]byte, 8*len(s)+16)
	for i := range 8 * len(s) {
		bits[i] = s[i/8] >> (7 - i%8) & 1
	}
	for i := range 16 {
		bits[i] ^= byte(sum >> (15 - i) & 1)
	}
	for i := range 8 * len(s) {
		if bits[i] == 1 {
			for _, power := range []int{16, 12, 5, 0} {
				bits[i+16-power] ^= 1
			}
		}
	}
	var out uint16
	for _, b := range bits[8*len(s):] {
		out = out<<1 | uint16(b)
	}
	return out
}

// J1: the document's examples, and others that are known of this sum.
func TestOfExamples(t *testing.T) {
	for s, want := range map[string]uint16{
		"123456789": 10673, "": 65535, "A": 0xb915, "\x00": 0xe1f0, "\xff\xff": 0,
	} {
		if n := Of(s); n != want {
			t.Errorf("Of(%q) is %d, not %d", s, n, want)
		}
	}
}

// J1: a sum of 0 begins with nothing put to it, so that the first byte's own bits are seen: 1 falls out in the eighth
// move, and the number that is put to it stands there alone; 128 falls out in the first.
func TestMoreOfOneBit(t *testing.T) {
	for b, want := range map[string]uint16{"\x00": 0, "\x01": 4129, "\x02": 8258, "\x08": 33032, "\x10": 4657, "\x80": 37256} {
		if n := More(0, b); n != want {
			t.Errorf("More(0, %q) is %d, not %d", b, n, want)
		}
	}
	// A sum's lower byte is moved up as it is by one byte that takes the higher one away.
	if n := More(0xab12, "\xab"); n != 0x1200 {
		t.Errorf("More(0xab12, 0xab) is %x", n)
	}
}

// J1: all sums, behind which nothing comes, or one of several bytes.
func TestMoreOfAllSums(t *testing.T) {
	for n := range 1 << 16 {
		sum := uint16(n)
		if got := More(sum, ""); got != sum {
			t.Fatalf("More(%d, nothing) is %d", sum, got)
		}
		for _, s := range []string{"\x00", "\xff", "a", "\x80"} {
			if got, want := More(sum, s), rest(sum, s); got != want {
				t.Fatalf("More(%d, %q) is %d, not %d", sum, s, got, want)
			}
		}
	}
}

// J1: all bytes, behind sums of all kinds.
func TestMoreOfAllBytes(t *testing.T) {
	seed := uint64(2463534242)
	for n := range 256 {
		s := string([]byte{byte(n)})
		for range 40 {
			sum := uint16(next(&seed) >> 20)
			if got, want := More(sum, s), rest(sum, s); got != want {
				t.Fatalf("More(%d, %q) is %d, not %d", sum, s, got, want)
			}
		}
	}
}

// J1: texts of all kinds, byte by byte, whatever runes they have; Of begins with 65535.
func TestOfTexts(t *testing.T) {
	for _, s := range texts() {
		if got, want := Of(s), rest(65535, s); got != want {
			t.Errorf("Of(%q) is %d, not %d", s, got, want)
		}
		if got, want := Of(s), More(65535, s); got != want {
			t.Errorf("Of(%q) is %d, and More(65535) of it %d", s, got, want)
		}
		for _, sum := range []uint16{0, 1, 0x1021, 0x7fff, 0x8000, 0xfffe} {
			if got, want := More(sum, s), rest(sum, s); got != want {
				t.Errorf("More(%d, %q) is %d, not %d", sum, s, got, want)
			}
		}
	}
}

// J2: the text, the sum's higher byte, the lower one.
func TestSeal(t *testing.T) {
	for s, want := range map[string]string{"123456789": "123456789\x29\xb1", "": "\xff\xff", "A": "A\xb9\x15", "\xff\xff": "\xff\xff\x00\x00"} {
		if got := Seal(s); got != want {
			t.Errorf("Seal(%q) is %q, not %q", s, got, want)
		}
	}
	for _, s := range texts() {
		n := rest(65535, s)
		if got, want := Seal(s), s+string([]byte{byte(n / 256), byte(n % 256)}); got != want {
			t.Errorf("Seal(%q) is %q, not %q", s, got, want)
		}
	}
}

// J2: the document's examples, and texts that are too short for any sum.
func TestRightExamples(t *testing.T) {
	for s, want := range map[string]bool{
		Seal("a"): true, "": false, "ab": false, "\xff\xff": true, "123456789\x29\xb1": true, "123456789\xb1\x29": false,
		"123456789\x29": false, "123456789": false, "\xff\xff\xff": false, "\x00\x00": false, "\xff\xff\x00\x00": true,
	} {
		if got := Right(s); got != want {
			t.Errorf("Right(%q) is %v", s, got)
		}
	}
	for n := range 256 {
		if s := string([]byte{byte(n)}); Right(s) {
			t.Errorf("Right(%q)", s)
		}
	}
}

// J2: of all pairs of bytes behind a text one is right.
func TestRightOfAllPairs(t *testing.T) {
	for _, s := range []string{"", "\x00", "a", "\xff", "\xff\xff", "\x00\x00\x00", "north"} {
		for n := range 1 << 16 {
			sealed := s + string([]byte{byte(n >> 8), byte(n)})
			if got, want := Right(sealed), uint16(n) == rest(65535, s); got != want {
				t.Fatalf("Right(%q) is %v", sealed, got)
			}
		}
	}
}

// J3: a sum goes on from wherever a text was cut.
func TestSumsGoOn(t *testing.T) {
	for _, s := range texts() {
		if len(s) > 300 {
			continue
		}
		for cut := range len(s) + 1 {
			if got, want := More(Of(s[:cut]), s[cut:]), Of(s); got != want {
				t.Fatalf("%q, cut at %d: %d, not %d", s, cut, got, want)
			}
			if got, want := More(More(4129, s[:cut]), s[cut:]), More(4129, s); got != want {
				t.Fatalf("%q, cut at %d, behind 4129: %d, not %d", s, cut, got, want)
			}
		}
	}
}

// J3: what was sealed is right, sealed once more, too; and its sum is 0.
func TestSealedIsRight(t *testing.T) {
	for _, s := range texts() {
		sealed := Seal(s)
		if !Right(sealed) || !Right(Seal(sealed)) || Of(sealed) != 0 {
			t.Errorf("Seal(%q) is not right", s)
		}
	}
}

// turn turns the bits of s that pattern, laid from the bit at on, has; what reaches beyond s is left out.
func turn(s string, pattern uint32, at int) string {
	out := []byte(s)
	for i := range 32 {
		if place := at + i; pattern>>(31-i)&1 == 1 && place < 8*len(s) {
			out[place/8] ^= 1 << (7 - place%8)
		}
	}
	return string(out)
}

// J3: whatever is turned within 16 bits in a row is found, wherever it stands, in the sum as well.
func TestTurnedIsNotRight(t *testing.T) {
	for _, s := range []string{"", "\x00", "a\xff7", "\x00\x00\x00\x00"} {
		sealed := Seal(s)
		for at := range 8*len(sealed) - 15 {
			for n := 1; n < 1<<16; n++ {
				if turned := turn(sealed, uint32(n)<<16, at); Right(turned) {
					t.Fatalf("%q, turned by %x at %d, is right: %q", sealed, n, at, turned)
				}
			}
		}
	}
}

// J3: in long texts as well, at places of all kinds.
func TestLongTurnedIsNotRight(t *testing.T) {
	seed := uint64(362436069)
	for _, s := range texts() {
		sealed := Seal(s)
		for range 300 {
			pattern, at := uint32(next(&seed)>>20)&0xffff|1, int(next(&seed)>>20)%(8*len(sealed)-15)
			if Right(turn(sealed, pattern<<16, at)) {
				t.Fatalf("%q, turned by %x at %d, is right", sealed, pattern, at)
			}
		}
	}
}

// J1, J3: 17 bits in a row are too many: what is turned by all the terms of the number that is put to the sum is right.
func TestTurnedBySeventeen(t *testing.T) {
	sealed := Seal("north")
	for at := range 8*len(sealed) - 16 {
		if turned := turn(sealed, 0x11021<<15, at); turned == sealed || !Right(turned) {
			t.Errorf("%q, turned at %d, is not right: %q", sealed, at, turned)
		}
	}
}
