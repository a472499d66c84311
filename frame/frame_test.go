package frame

import (
	"fmt"
	"reflect"
	"strings"
	"testing"

	"gimbal/api"
)

// next is a number that looks like any other one, the same ones in each run.
func next(seed *uint64) uint64 {
	*seed ^= *seed << 13
	*seed ^= *seed >> 7
	*seed ^= *seed << 17
	return *seed
}

// below is one of 0 to n - 1.
func below(seed *uint64, n int) int {
	return int(next(seed)>>20) % n
}

// anyText has n bytes of all kinds.
func anyText(seed *uint64, n int) string {
	out := make([]byte, n)
	for i := range out {
		out[i] = byte(below(seed, 256))
	}
	return string(out)
}

// sum is the one of 16 bits that stands behind a frame, told apart from package crc: bit by bit, as a division.
func sum(s string) uint16 {
	var rest uint32 = 0xffff
	for _, b := range []byte(s) {
		for bit := 7; bit >= 0; bit-- {
			fell := rest>>15&1 ^ uint32(b)>>bit&1
			rest = rest << 1 & 0xffff
			if fell == 1 {
				rest ^= 1<<12 | 1<<5 | 1
			}
		}
	}
	return uint16(rest)
}

// framed is what the document calls a frame, whatever the payload's size.
func framed(kind byte, payload string) string {
	counted := string([]byte{kind, byte(len(payload))}) + payload
	n := sum(counted)
	return "\xa5\x5a" + counted + string([]byte{byte(n >> 8), byte(n)})
}

// wrap is a frame that can be made.
func wrap(t *testing.T, kind byte, payload string) string {
	t.Helper()
	out, e := Wrap(kind, payload)
	if e != api.OK {
		t.Fatalf("Wrap(%d, %q) tells %d", kind, payload, e)
	}
	return out
}

// outcome is all that a scan tells.
type outcome struct {
	told         []api.Frame
	bad, waiting int
}

// fed is what a new scan tells that is fed the chunks.
func fed(chunks ...string) outcome {
	s := New()
	var out outcome
	for _, c := range chunks {
		out.told = append(out.told, s.Feed(c)...)
	}
	out.bad, out.waiting = s.Bad(), s.Waiting()
	return out
}

// model is promise K2 told word by word, a byte at a time, with all bytes at hand.
func model(bytes string) outcome {
	var out outcome
	b := []byte(bytes)
	for len(b) > 0 {
		if b[0] != 165 {
			b = b[1:]
			continue
		}
		if len(b) > 1 && b[1] != 90 {
			b = b[1:]
			continue
		}
		if len(b) > 3 && b[3] > 64 {
			b = b[2:]
			out.bad++
			continue
		}
		if len(b) < 4 || len(b) < int(b[3])+6 {
			break
		}
		size := int(b[3]) + 6
		if n := sum(string(b[2 : size-2])); b[size-2] == byte(n>>8) && b[size-1] == byte(n) {
			out.told = append(out.told, api.Frame{Kind: b[2], Payload: string(b[4 : size-2])})
			b = b[size:]
			continue
		}
		b = b[2:]
		out.bad++
	}
	out.waiting = len(b)
	return out
}

// same holds two outcomes against each other; no frames are the same as an empty list of them.
func same(a, b outcome) bool {
	return len(a.told) == len(b.told) && (len(a.told) == 0 || reflect.DeepEqual(a.told, b.told)) && a.bad == b.bad && a.waiting == b.waiting
}

// one is the list of one frame.
func one(kind byte, payload string) []api.Frame {
	return []api.Frame{{Kind: kind, Payload: payload}}
}

// payloads are of all lengths that a frame carries, and with what looks like a frame itself.
func payloads() []string {
	seed := uint64(88172645463325252)
	out := []string{"\xa5", "\xa5\x5a", "\xa5\x5a\x01\x41", "\xa5\x5a\x00\x00", "\x00", "\xff\xff", "\u20ac", framed(1, "in"), framed(2, framed(3, ""))}
	for n := range api.MaxPayload + 1 {
		out = append(out, anyText(&seed, n))
	}
	return append(out, strings.Repeat("\xa5\x5a", 32), strings.Repeat("\x00", 64), strings.Repeat("\xa5", 64))
}

// garbage has n bytes, 165 being none of them.
func garbage(seed *uint64, n int) string {
	return strings.ReplaceAll(anyText(seed, n), "\xa5", "\x5a")
}

// noise has pieces of which frames are made, and frames, whole, cut and turned.
func noise(seed *uint64, pieces int) string {
	var out strings.Builder
	for range pieces {
		f := framed(byte(below(seed, 256)), anyText(seed, below(seed, 12)))
		switch below(seed, 10) {
		case 0, 1:
			out.WriteString("\xa5")
		case 2:
			out.WriteString("\x5a")
		case 3:
			out.WriteString("\xa5\x5a")
		case 4:
			out.WriteString("\xa5\x5a" + anyText(seed, 1) + string([]byte{byte(below(seed, 70))}))
		case 5:
			out.WriteString(anyText(seed, below(seed, 5)))
		case 6:
			out.WriteString(f[:below(seed, len(f))])
		case 7:
			turned := []byte(f)
			turned[below(seed, len(f))] ^= 1 << below(seed, 8)
			out.Write(turned)
		default:
			out.WriteString(f)
		}
	}
	return out.String()
}

// cutAnyhow cuts s into chunks, empty ones among them.
func cutAnyhow(seed *uint64, s string) []string {
	var out []string
	for s != "" {
		n := min(below(seed, 9), len(s))
		out = append(out, s[:n])
		s = s[n:]
	}
	return out
}

// K1: the marks, the kind, the count, the payload and the sum, its higher byte first.
func TestWrap(t *testing.T) {
	if got := wrap(t, 7, "ab"); got != "\xa5\x5a\x07\x02ab\xcf\x72" {
		t.Errorf("%q", got)
	}
	if got := wrap(t, 0, ""); got != "\xa5\x5a\x00\x00\x1d\x0f" {
		t.Errorf("%q", got)
	}
	for i, p := range payloads() {
		for _, kind := range []byte{0, 1, byte(i), 90, 165, 255} {
			if got := wrap(t, kind, p); got != framed(kind, p) || len(got) != len(p)+6 {
				t.Errorf("Wrap(%d, %q) is %q", kind, p, got)
			}
		}
	}
}

// K1: 64 bytes are the most.
func TestWrapTooLong(t *testing.T) {
	for _, n := range []int{65, 66, 127, 128, 255, 256, 257, 320, 100000} {
		if got, e := Wrap(1, strings.Repeat("a", n)); got != "" || e != api.ErrLong {
			t.Errorf("Wrap of %d bytes is %q, %d", n, got, e)
		}
	}
	if got, e := Wrap(1, strings.Repeat("a", 64)); len(got) != 70 || e != api.OK {
		t.Errorf("Wrap of 64 bytes is %q, %d", got, e)
	}
}

// K2, K3: the document's examples.
func TestExamples(t *testing.T) {
	w := wrap(t, 7, "ab")
	ab := one(7, "ab")
	for name, c := range map[string]struct{ got, want outcome }{
		"whole":           {fed(w), outcome{ab, 0, 0}},
		"but its last":    {fed(w[:7]), outcome{nil, 0, 7}},
		"and its last":    {fed(w[:7], w[7:]), outcome{ab, 0, 0}},
		"others around":   {fed("x\xa5" + wrap(t, 1, "") + "y"), outcome{one(1, ""), 0, 0}},
		"count too great": {fed("\xa5\x5a\x01\x41"), outcome{nil, 1, 0}},
		"last one turned": {fed(w[:7] + string([]byte{w[7] ^ 0xff})), outcome{nil, 1, 0}},
	} {
		if !same(c.got, c.want) {
			t.Errorf("%s: %v, not %v", name, c.got, c.want)
		}
	}
}

// K2, K3: a new scan has nothing, each scan its own; nothing that is fed tells nothing.
func TestNew(t *testing.T) {
	a, b := New(), New()
	if a.Bad() != 0 || a.Waiting() != 0 || len(a.Feed("")) != 0 || a.Bad() != 0 || a.Waiting() != 0 {
		t.Error("a new scan has something")
	}
	a.Feed("\xa5\x5a\x01\x41\xa5\x5a")
	if a.Bad() != 1 || a.Waiting() != 2 || b.Bad() != 0 || b.Waiting() != 0 {
		t.Error(a.Bad(), a.Waiting(), b.Bad(), b.Waiting())
	}
}

// K2, K3: what is dropped and what waits, case by case.
func TestFirstBytes(t *testing.T) {
	w := framed(7, "ab")
	for _, c := range []struct {
		bytes string
		want  outcome
	}{
		{"", outcome{}},
		{"\x00", outcome{}},
		{"xyz", outcome{}},
		{"\x5a", outcome{}},
		{"\x5a\xa5", outcome{nil, 0, 1}},
		{"\xa5", outcome{nil, 0, 1}},
		{"\xa5x", outcome{}},
		{"\xa5\xa5", outcome{nil, 0, 1}},
		{"\xa5\xa5\x5a", outcome{nil, 0, 2}},
		{"\xa5x\xa5\x5a", outcome{nil, 0, 2}},
		{"\xa5\x5a", outcome{nil, 0, 2}},
		{"\xa5\x5a\xff", outcome{nil, 0, 3}},
		{"\xa5\x5a\x01\x00", outcome{nil, 0, 4}},
		{"\xa5\x5a\x01\x40", outcome{nil, 0, 4}},
		{"\xa5\x5a\x01\x41", outcome{nil, 1, 0}},
		{"\xa5\x5a\x01\xff", outcome{nil, 1, 0}},
		{"\xa5\x5a\x01\xa5", outcome{nil, 1, 1}},              // what told the count waits as a mark
		{"\xa5\x5a\xa5\x5a", outcome{nil, 1, 2}},              // 90 is a count above 64, and a mark, too
		{"\xa5\x5a\xa5\x5a\x01\x41", outcome{nil, 2, 0}},      // so is it here
		{"\xa5\x5a\x01\x00\x00\x00", outcome{nil, 1, 0}},      // a wrong sum
		{"\xa5\x5a\x01\x00\xa5\x5a", outcome{nil, 1, 2}},      // a wrong one, in which another frame begins
		{"\xa5\x5a\x07\x06" + w, outcome{one(7, "ab"), 1, 0}}, // within a bad frame a right one
		{"\xa5\x5a\x07\x08" + w, outcome{nil, 0, 12}},         // not known to be bad yet
		{"\xa5\x5a" + w, outcome{one(7, "ab"), 1, 0}},         // its marks are taken as kind and count
		{"\xa5\x5a\x01" + w, outcome{one(7, "ab"), 1, 0}},     // 165 is a count above 64
		{w[:7] + w, outcome{one(7, "ab"), 1, 0}},              // a byte is lost
		{w[:4] + w, outcome{one(7, "ab"), 1, 0}},              // four are
		{w[1:] + w, outcome{one(7, "ab"), 0, 0}},              // the first mark is
		{w + w + w[:3], outcome{append(one(7, "ab"), one(7, "ab")...), 0, 3}},
		{framed(9, w), outcome{one(9, w), 0, 0}}, // what it carries is not looked at
	} {
		if got := fed(c.bytes); !same(got, c.want) {
			t.Errorf("%q: %v, not %v", c.bytes, got, c.want)
		}
	}
}

// K2: a frame whose sum is right but whose count is above 64 is none.
func TestCountTooGreat(t *testing.T) {
	for _, n := range []int{65, 66, 89, 128, 200, 255} {
		if got := fed(framed(1, strings.Repeat("a", n))); !same(got, outcome{nil, 1, 0}) {
			t.Errorf("%d bytes: %v", n, got)
		}
	}
	if got, p := fed(framed(1, strings.Repeat("a", 64))), strings.Repeat("a", 64); !same(got, outcome{one(1, p), 0, 0}) {
		t.Errorf("64 bytes: %v", got)
	}
}

// K1, K2: all kinds and payloads come out as they went in, in order.
func TestThereAndBack(t *testing.T) {
	var all string
	var want []api.Frame
	for i, p := range payloads() {
		for _, kind := range []byte{0, byte(3 * i), 255} {
			w := wrap(t, kind, p)
			if got := fed(w); !same(got, outcome{one(kind, p), 0, 0}) {
				t.Errorf("of Wrap(%d, %q): %v", kind, p, got)
			}
			all += w
			want = append(want, api.Frame{Kind: kind, Payload: p})
		}
	}
	if got := fed(all); !same(got, outcome{want, 0, 0}) {
		t.Errorf("of all frames: %v", got)
	}
}

// K2, K3: after each single byte what was told, bad and waiting is as if just these bytes had come.
func TestByteByByte(t *testing.T) {
	seed := uint64(2463534242)
	for range 60 {
		s := noise(&seed, 12)
		scan := New()
		var got outcome
		for i := range len(s) {
			got.told = append(got.told, scan.Feed(s[i:i+1])...)
			got.bad, got.waiting = scan.Bad(), scan.Waiting()
			if want := model(s[:i+1]); !same(got, want) {
				t.Fatalf("%q: %v, not %v", s[:i+1], got, want)
			}
		}
	}
}

// K2, K3: short texts of the bytes that matter, all of them.
func TestAllShortTexts(t *testing.T) {
	letters := "\xa5\x5a\x00\x01\x40\x41"
	texts := []string{""}
	for range 7 {
		var longer []string
		for _, s := range texts {
			if got, want := fed(s), model(s); !same(got, want) {
				t.Fatalf("%q: %v, not %v", s, got, want)
			}
			for i := range len(letters) {
				longer = append(longer, s+letters[i:i+1])
			}
		}
		texts = longer
	}
}

// K2, K4: how the bytes are cut does not matter.
func TestChunks(t *testing.T) {
	seed := uint64(362436069)
	for range 400 {
		s := noise(&seed, 20)
		want := model(s)
		if got := fed(s); !same(got, want) {
			t.Fatalf("%q: %v, not %v", s, got, want)
		}
		for range 5 {
			if chunks := cutAnyhow(&seed, s); !same(fed(chunks...), want) {
				t.Fatalf("%q: %v, not %v", chunks, fed(chunks...), want)
			}
		}
	}
}

// K4: wherever a frame is cut in two, it is told once it is whole.
func TestCutOnce(t *testing.T) {
	for _, p := range payloads() {
		w := wrap(t, 5, p)
		for cut := range len(w) {
			s := New()
			if told := s.Feed(w[:cut]); len(told) != 0 || s.Bad() != 0 || s.Waiting() != cut {
				t.Fatalf("%q: %v, %d, %d", w[:cut], told, s.Bad(), s.Waiting())
			}
			if told := s.Feed(w[cut:]); !reflect.DeepEqual(told, one(5, p)) || s.Bad() != 0 || s.Waiting() != 0 {
				t.Fatalf("%q and the rest: %v, %d, %d", w[:cut], told, s.Bad(), s.Waiting())
			}
		}
	}
}

// K4: what was wrapped is told, whatever stands between without 165; nothing is bad then.
func TestBetween(t *testing.T) {
	seed := uint64(521288629)
	for range 300 {
		var all string
		var want []api.Frame
		for range below(&seed, 8) {
			f := api.Frame{Kind: byte(below(&seed, 256)), Payload: anyText(&seed, below(&seed, 65))}
			all += garbage(&seed, below(&seed, 90)) + wrap(t, f.Kind, f.Payload)
			want = append(want, f)
		}
		all += garbage(&seed, below(&seed, 90))
		if got := fed(cutAnyhow(&seed, all)...); !same(got, outcome{want, 0, 0}) {
			t.Fatalf("%q: %v, not %v", all, got, want)
		}
	}
}

// K4: what was turned within 16 bits in a row, behind the count, is not told as it is; what comes next is.
func TestTurned(t *testing.T) {
	seed := uint64(123456789)
	for _, p := range payloads() {
		w := wrap(t, 3, p)
		bits := 8 * (len(w) - 4)
		for range 200 {
			turned := []byte(w)
			at, pattern := below(&seed, bits-15), 1+below(&seed, 65535)
			for i := range 16 {
				if pattern>>i&1 == 1 {
					turned[4+(at+i)/8] ^= 1 << (7 - (at+i)%8)
				}
			}
			got := fed(string(turned))
			for _, f := range got.told {
				if f.Payload == string(turned[4:len(turned)-2]) {
					t.Fatalf("%q is told as it is: %v", turned, got)
				}
			}
			if got.bad == 0 || !same(got, model(string(turned))) {
				t.Fatalf("%q: %v, not %v", turned, got, model(string(turned)))
			}
			if strings.Count(string(turned), "\xa5") == 1 {
				if more := fed(string(turned), w); !same(more, outcome{one(3, p), 1, 0}) {
					t.Fatalf("%q, and %q behind: %v", turned, w, more)
				}
			}
		}
	}
}

// K3: what waits is never more than a frame of 64 bytes without its last byte.
func TestWaitsAtMost(t *testing.T) {
	w := wrap(t, 1, strings.Repeat("\xa5\x5a", 32))
	if got := fed(w[:69]); !same(got, outcome{nil, 0, 69}) {
		t.Errorf("%v", got)
	}
	seed := uint64(99887766)
	s := New()
	for range 5000 {
		s.Feed(noise(&seed, 1))
		if n := s.Waiting(); n < 0 || n > 69 {
			t.Fatalf("%d bytes wait", n)
		}
	}
}

// K2, K3: many bytes at once, of the worst kinds, end in time.
func TestMany(t *testing.T) {
	for _, piece := range []string{"\xa5", "\x5a", "\xa5\x5a", "\xa5\x5a\x00\x40", "\xa5\x5a\x00\x41", framed(1, "")} {
		s := strings.Repeat(piece, 200000)
		got := fed(s)
		if want := model(s[:len(piece)*50]); len(got.told) != 4000*len(want.told) {
			t.Errorf("%q many times: %d are told", piece, len(got.told))
		}
		if !strings.HasPrefix(piece, "\xa5\x5a") && (got.bad != 0 || got.waiting > 1) {
			t.Errorf("%q many times: %d, %d", piece, got.bad, got.waiting)
		}
	}
}

// R6: scans that are copied go on apart from each other.
func TestCopiesGoOnApart(t *testing.T) {
	a := New()
	w := framed(7, "abcd")
	a.Feed(w[:5])
	b := *a
	a.Feed("xx")
	if told := b.Feed(w[5:]); !reflect.DeepEqual(told, one(7, "abcd")) || b.Waiting() != 0 {
		t.Error(told, b.Waiting())
	}
	if a.Waiting() != 7 || a.Bad() != 0 {
		t.Error(a.Waiting(), a.Bad())
	}
}

// R5: frames that were told stay as they are, whatever comes later, and the list as well.
func TestToldStays(t *testing.T) {
	s := New()
	first := s.Feed(framed(1, "one") + framed(2, "two"))
	before := fmt.Sprint(first)
	second := s.Feed(framed(3, "three") + framed(4, "four"))
	if fmt.Sprint(first) != before || len(second) != 2 || second[0].Payload != "three" {
		t.Error(first, second)
	}
	first[0].Kind = 9
	if second[0].Kind != 3 || len(s.Feed("")) != 0 {
		t.Error(second)
	}
}

// R1: a scan that nobody made by New doesn't panic; nil keeps nothing.
func TestNotMadeByNew(t *testing.T) {
	var made Scan
	if told := made.Feed(framed(7, "ab") + "\xa5"); !reflect.DeepEqual(told, one(7, "ab")) || made.Waiting() != 1 {
		t.Error(told, made.Waiting())
	}
	var none *Scan
	if told := none.Feed("\xa5\x5a\x01\x41\xa5"); len(told) != 0 || none.Bad() != 0 || none.Waiting() != 0 {
		t.Error(told, none.Bad(), none.Waiting())
	}
}
