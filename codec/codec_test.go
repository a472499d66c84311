package codec

import (
	"encoding/binary"
	"math"
	"reflect"
	"testing"

	"gimbal/api"
	"gimbal/frame"
)

// next is a number that looks like any other one, the same ones in each run.
func next(seed *uint64) uint64 {
	*seed ^= *seed << 13
	*seed ^= *seed >> 7
	*seed ^= *seed << 17
	return *seed
}

// anyOf is one of the numbers.
func anyOf(seed *uint64, numbers ...int64) int64 {
	return numbers[int(next(seed)>>20)%len(numbers)]
}

// kinds has how many values each kind has, as the document tells.
var kinds = map[int]int{1: 6, 2: 6, 3: 1, 4: 3}

// anyValue is a fixed number, now and then one at an edge.
func anyValue(seed *uint64) int64 {
	far := int64(next(seed)>>20)%(2*math.MaxInt32+1) - math.MaxInt32
	return anyOf(seed, far, far, far, 0, -1, 1, 255, 256, -256, math.MaxInt32, -math.MaxInt32)
}

// anyMeasure is a measurement of the kind.
func anyMeasure(seed *uint64, kind int) api.Measure {
	m := api.Measure{Kind: kind}
	m.At = anyOf(seed, int64(next(seed)>>32), 0, 258, 1<<31, 1<<32-1)
	m.Seq = anyOf(seed, int64(next(seed)>>48), 0, 1, 255, 256, 65535)
	for range kinds[kind] {
		m.V = append(m.V, anyValue(seed))
	}
	return m
}

// bytesOf is a measurement's payload, told apart from the package.
func bytesOf(m api.Measure) string {
	out := binary.BigEndian.AppendUint32(nil, uint32(m.At))
	out = binary.BigEndian.AppendUint16(out, uint16(m.Seq))
	for _, v := range m.V {
		if v < 0 {
			v += 1 << 32
		}
		out = binary.BigEndian.AppendUint32(out, uint32(v))
	}
	return string(out)
}

// sameMeasure tells whether all is the same; a nil list is an empty one.
func sameMeasure(a, b api.Measure) bool {
	if len(a.V) == 0 && len(b.V) == 0 {
		a.V, b.V = nil, nil
	}
	return reflect.DeepEqual(a, b)
}

// wantNoBytes checks that m is refused with the error, and that nothing else is told.
func wantNoBytes(t *testing.T, m api.Measure, want api.Errno) {
	t.Helper()
	kind, payload, e := Encode(m)
	if kind != 0 || payload != "" || e != want {
		t.Errorf("Encode(%v) = %d %q %v, not %v", m, kind, payload, e, want)
	}
}

// wantNoMeasure checks that the bytes are refused with the error, and that nothing else is told.
func wantNoMeasure(t *testing.T, kind byte, payload string, want api.Errno) {
	t.Helper()
	m, e := Decode(kind, payload)
	if !sameMeasure(m, api.Measure{}) || e != want {
		t.Errorf("Decode(%d, %q) = %v %v, not %v", kind, payload, m, e, want)
	}
}

// wantBytes checks that m is encoded as told, and decoded again.
func wantBytes(t *testing.T, m api.Measure, want string) {
	t.Helper()
	kind, payload, e := Encode(m)
	if int(kind) != m.Kind || payload != want || e != api.OK {
		t.Errorf("Encode(%v) = %d %q %v, not %q", m, kind, payload, e, want)
	}
	back, e := Decode(byte(m.Kind), want)
	if !sameMeasure(back, m) || e != api.OK {
		t.Errorf("Decode(%d, %q) = %v %v, not %v", m.Kind, want, back, e, m)
	}
}

// L1: the count of each kind, and 0 of all that are none, beside them and far off.
func TestCount(t *testing.T) {
	for kind := -300; kind <= 600; kind++ {
		if got := Count(kind); got != kinds[kind] {
			t.Errorf("Count(%d) = %d", kind, got)
		}
	}
	for _, kind := range []int{math.MinInt, math.MaxInt, 1 << 32, 1<<32 + 1, 1<<32 + 4, -1 << 32, 1<<63 - 255} {
		if got := Count(kind); got != 0 {
			t.Errorf("Count(%d) = %d", kind, got)
		}
	}
}

// L2, L3: the document's examples.
func TestExamples(t *testing.T) {
	wantBytes(t, api.Measure{Kind: api.Baro, At: 258, Seq: 3, V: []int64{-1}}, "\x00\x00\x01\x02\x00\x03\xff\xff\xff\xff")
	wantNoMeasure(t, 5, "\x00\x00\x01\x02\x00\x03\xff\xff\xff\xff", api.ErrKind)
	wantNoMeasure(t, 3, "\x00\x00\x00\x00\x00\x00\x80\x00\x00", api.ErrSize)
	wantNoMeasure(t, 3, "\x00\x00\x00\x00\x00\x00\x80\x00\x00\x00", api.ErrRange)
	wantNoBytes(t, api.Measure{Kind: api.Baro}, api.ErrSize)
	wantNoBytes(t, api.Measure{Kind: api.Baro, V: []int64{api.Most + 1}}, api.ErrRange)
	wantNoBytes(t, api.Measure{Kind: api.Baro, At: 1 << 32, V: []int64{0}}, api.ErrRange)
}

// L2, L3: all bytes of each kind in their places, and what lies at the edges.
func TestPlaces(t *testing.T) {
	head := "\x01\x02\x03\x04\x05\x06"
	m := api.Measure{At: 0x01020304, Seq: 0x0506}
	six := []int64{0x0708090a, 0x0b0c0d0e, -1, -256, -api.Most, api.Most}
	sixth := "\x07\x08\x09\x0a\x0b\x0c\x0d\x0e\xff\xff\xff\xff\xff\xff\xff\x00\x80\x00\x00\x01\x7f\xff\xff\xff"
	for kind, n := range kinds {
		m.Kind, m.V = kind, six[:n]
		wantBytes(t, m, head+sixth[:4*n])
	}
	wantBytes(t, api.Measure{Kind: api.Mag, At: 1<<32 - 1, Seq: 65535, V: []int64{0, 0, 0}}, "\xff\xff\xff\xff\xff\xff\x00\x00\x00\x00\x00\x00\x00\x00\x00\x00\x00\x00")
	wantBytes(t, api.Measure{Kind: api.Baro, At: 1 << 31, Seq: 1 << 15, V: []int64{-1 << 30}}, "\x80\x00\x00\x00\x80\x00\xc0\x00\x00\x00")
}

// L2: kinds that are none, of which some have a kind's lowest byte.
func TestEncodeKind(t *testing.T) {
	for _, kind := range []int{0, 5, 6, 255, 256, 257, 259, -1, -253, 1<<32 + 3, math.MinInt, math.MaxInt} {
		wantNoBytes(t, api.Measure{Kind: kind}, api.ErrKind)
		wantNoBytes(t, api.Measure{Kind: kind, V: []int64{0}}, api.ErrKind)
	}
}

// L2, R4: as many values as the kind has, not one more or less; a nil list is an empty one.
func TestEncodeSize(t *testing.T) {
	for kind, n := range kinds {
		for size := range 20 {
			m := api.Measure{Kind: kind, V: make([]int64, size)}
			if size != n {
				wantNoBytes(t, m, api.ErrSize)
				continue
			}
			wantBytes(t, m, bytesOf(m))
		}
		wantNoBytes(t, api.Measure{Kind: kind, V: nil}, api.ErrSize)
	}
}

// L2: each of the numbers in turn just beyond what it may be, and far beyond, where its lowest bytes look right.
func TestEncodeRange(t *testing.T) {
	for kind, n := range kinds {
		for _, at := range []int64{-1, 1 << 32, 1<<32 + 1, math.MinInt64, math.MaxInt64} {
			wantNoBytes(t, api.Measure{Kind: kind, At: at, V: make([]int64, n)}, api.ErrRange)
		}
		for _, seq := range []int64{-1, 1 << 16, 1<<16 + 1, 1 << 32, math.MinInt64, math.MaxInt64} {
			wantNoBytes(t, api.Measure{Kind: kind, Seq: seq, V: make([]int64, n)}, api.ErrRange)
		}
		for place := range n {
			for _, v := range []int64{api.Most + 1, -api.Most - 1, -api.Most - 2, 1<<32 - 1, 1 << 32, math.MinInt64, math.MaxInt64} {
				m := api.Measure{Kind: kind, V: make([]int64, n)}
				m.V[place] = v
				wantNoBytes(t, m, api.ErrRange)
			}
		}
	}
}

// L2, R2: of several errors the kind's comes first, then the size's.
func TestEncodeOrder(t *testing.T) {
	wantNoBytes(t, api.Measure{Kind: 5, At: -1, Seq: -1, V: []int64{1 << 40}}, api.ErrKind)
	wantNoBytes(t, api.Measure{Kind: 0, At: -1}, api.ErrKind)
	wantNoBytes(t, api.Measure{Kind: api.Baro, At: -1}, api.ErrSize)
	wantNoBytes(t, api.Measure{Kind: api.Mag, Seq: 65536, V: []int64{1 << 40}}, api.ErrSize)
}

// L3: bytes that stand for kinds that are none are refused, as many of them as there may be.
func TestDecodeKind(t *testing.T) {
	for kind := range 256 {
		if kinds[kind] != 0 {
			continue
		}
		for _, size := range []int{0, 6, 9, 10, 18, 30} {
			wantNoMeasure(t, byte(kind), string(make([]byte, size)), api.ErrKind)
		}
	}
}

// L3: as many bytes as the kind has, not one more or less.
func TestDecodeSize(t *testing.T) {
	for kind, n := range kinds {
		for size := range 100 {
			payload := string(make([]byte, size))
			if size == 6+4*n {
				wantBytes(t, api.Measure{Kind: kind, V: make([]int64, n)}, payload)
				continue
			}
			wantNoMeasure(t, byte(kind), payload, api.ErrSize)
		}
	}
}

// L3, R2: -2^31 at each place is refused, and its neighbours aren't; where the size is wrong too, that is told.
func TestDecodeRange(t *testing.T) {
	for kind, n := range kinds {
		for place := range n {
			m := api.Measure{Kind: kind, V: make([]int64, n)}
			m.V[place] = -1 << 31
			payload := bytesOf(m)
			wantNoMeasure(t, byte(kind), payload, api.ErrRange)
			wantNoMeasure(t, byte(kind), payload+"\x00", api.ErrSize)
			for _, v := range []int64{-api.Most, api.Most} {
				m.V[place] = v
				wantBytes(t, m, bytesOf(m))
			}
		}
	}
	// What a value must not be, a time may be.
	wantBytes(t, api.Measure{Kind: api.Baro, At: 1 << 31, V: []int64{0}}, "\x80\x00\x00\x00\x00\x00\x00\x00\x00\x00")
}

// L2, L3, L4: measurements of all kinds have the bytes that are told, and come back of them.
func TestThereAndBack(t *testing.T) {
	seed := uint64(12)
	for _, kind := range []int{1, 2, 3, 4} {
		for range 5000 {
			m := anyMeasure(&seed, kind)
			wantBytes(t, m, bytesOf(m))
		}
	}
}

// L3, L4: whatever bytes come, what is decoded has just these bytes; what isn't has a -2^31.
func TestBackAndThere(t *testing.T) {
	seed := uint64(4)
	for _, kind := range []int{1, 2, 3, 4} {
		n := kinds[kind]
		for range 5000 {
			payload := make([]byte, 6+4*n)
			for i := range payload {
				payload[i] = byte(anyOf(&seed, 0, 128, 255, int64(next(&seed)>>56)))
			}
			if next(&seed)>>40%4 == 0 {
				copy(payload[6+4*int(next(&seed)>>40%uint64(n)):], "\x80\x00\x00\x00")
			}
			least := false
			for place := range n {
				least = least || binary.BigEndian.Uint32(payload[6+4*place:]) == 1<<31
			}
			if least {
				wantNoMeasure(t, byte(kind), string(payload), api.ErrRange)
				continue
			}
			m, e := Decode(byte(kind), string(payload))
			if e != api.OK {
				t.Fatalf("Decode(%d, %q): %v", kind, payload, e)
			}
			wantBytes(t, m, string(payload))
		}
	}
}

// L2: what is encoded can be carried by a frame, and comes out of it.
func TestFramed(t *testing.T) {
	seed := uint64(1)
	for _, kind := range []int{1, 2, 3, 4} {
		m := anyMeasure(&seed, kind)
		k, payload, _ := Encode(m)
		line, e := frame.Wrap(k, payload)
		told := frame.New().Feed(line)
		if e != api.OK || len(told) != 1 {
			t.Fatalf("kind %d: %v, %d frames", kind, e, len(told))
		}
		back, e := Decode(told[0].Kind, told[0].Payload)
		if e != api.OK || !sameMeasure(back, m) {
			t.Errorf("kind %d: %v %v, not %v", kind, back, e, m)
		}
	}
}

// R5: what is encoded is not changed, and an answer shares no list with another one.
func TestLists(t *testing.T) {
	m := api.Measure{Kind: api.Mag, At: 1, Seq: 2, V: []int64{3, -4, 5}}
	_, payload, _ := Encode(m)
	if !reflect.DeepEqual(m, api.Measure{Kind: api.Mag, At: 1, Seq: 2, V: []int64{3, -4, 5}}) {
		t.Errorf("changed: %v", m)
	}
	a, _ := Decode(4, payload)
	b, _ := Decode(4, payload)
	a.V[0] = 9
	m.V[0] = 9
	if c, _ := Decode(4, payload); b.V[0] != 3 || c.V[0] != 3 {
		t.Errorf("shared: %v %v", b, c)
	}
}
