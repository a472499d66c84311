package config

import (
	"fmt"
	"math"
	"reflect"
	"strings"
	"testing"

	"gimbal/api"
)

// next is a number that looks like any other one, the same ones in each run.
func next(seed *uint64) uint64 {
	*seed ^= *seed << 13
	*seed ^= *seed >> 7
	*seed ^= *seed << 17
	return *seed
}

// told is what the document tells of a field: its name, what it may be, and its number or numbers by default.
type told struct {
	name        string
	least, most int64
	first       []int64
}

// fields is what the document tells of all fields, in order.
var fields = []told{
	{"Rate", 1, 1000, []int64{100}},
	{"Step", 1, 1000, []int64{50}},
	{"Keys", 2, 5, []int64{4}},
	{"Gap", 1, 1000, []int64{5}},
	{"Turn", 1, 4194304, []int64{2097152}},
	{"Pull", 1, 67108864, []int64{33554432}},
	{"Knees", 1, 32768, []int64{2000, 1000, 500, 100}},
	{"Weights", 1, 100, []int64{4, 1, 2, 8}},
	{"Rounds", 1, 30, []int64{12}},
	{"Raises", 0, 12, []int64{6}},
	{"Flat", 0, 1000000000, []int64{1000}},
}

// all has how many numbers a config has.
const all = 17

// put sets the place's number of the field with that name.
func put(c *api.Config, name string, place int, n int64) {
	field := reflect.ValueOf(c).Elem().FieldByName(name)
	if field.Kind() == reflect.Array {
		field = field.Index(place)
	}
	field.SetInt(n)
}

// of is the config with these numbers, in the order of the fields.
func of(numbers []int64) api.Config {
	var c api.Config
	for _, f := range fields {
		for place := range f.first {
			put(&c, f.name, place, numbers[0])
			numbers = numbers[1:]
		}
	}
	return c
}

// standard is the config that the document tells.
func standard() api.Config {
	var numbers []int64
	for _, f := range fields {
		numbers = append(numbers, f.first...)
	}
	return of(numbers)
}

// written is what a config's text is, told apart from the package.
func written(c api.Config) string {
	k, w := c.Knees, c.Weights
	return fmt.Sprintf("rate=%d step=%d keys=%d gap=%d turn=%d pull=%d knees=%d,%d,%d,%d weights=%d,%d,%d,%d rounds=%d raises=%d flat=%d",
		c.Rate, c.Step, c.Keys, c.Gap, c.Turn, c.Pull, k[0], k[1], k[2], k[3], w[0], w[1], w[2], w[3], c.Rounds, c.Raises, c.Flat)
}

// anyNumber is one of any size, now and then at an edge.
func anyNumber(seed *uint64) int64 {
	edges := []int64{0, 1, -1, 9, 10, -10, 1000, 32768, math.MaxInt64, math.MinInt64}
	pick := int(next(seed) >> 40 % 20)
	if pick < len(edges) {
		return edges[pick]
	}
	n := int64(next(seed))
	return n >> (next(seed) >> 58)
}

// anyConfig is a config of which nothing needs to hold.
func anyConfig(seed *uint64) api.Config {
	numbers := make([]int64, all)
	for i := range numbers {
		numbers[i] = anyNumber(seed)
	}
	return of(numbers)
}

// wantGood checks that nothing is wrong with the config, and that its window reaches so far back.
func wantGood(t *testing.T, c api.Config) {
	t.Helper()
	if field, e := Check(c); field != "" || e != api.OK {
		t.Errorf("Check(%v) = %q %v", c, field, e)
	}
	if got := Lag(c); got != c.Step*c.Keys {
		t.Errorf("Lag(%v) = %d", c, got)
	}
}

// wantWrong checks that the field is told, and that there is no window.
func wantWrong(t *testing.T, c api.Config, want string) {
	t.Helper()
	if field, e := Check(c); field != want || e != api.ErrConfig {
		t.Errorf("Check(%v) = %q %v, not %q", c, field, e, want)
	}
	if got := Lag(c); got != 0 {
		t.Errorf("Lag(%v) = %d, not 0", c, got)
	}
}

// wantText checks that the config is written so, and read again.
func wantText(t *testing.T, c api.Config, want string) {
	t.Helper()
	if got := Print(c); got != want {
		t.Errorf("Print(%v) = %q, not %q", c, got, want)
	}
	if back, e := Parse(want); back != c || e != api.OK {
		t.Errorf("Parse(%q) = %v %v, not %v", want, back, e, c)
	}
}

// wantNoConfig checks that the text is refused with the error, and that nothing else is told.
func wantNoConfig(t *testing.T, s string, want api.Errno) {
	t.Helper()
	if c, e := Parse(s); c != (api.Config{}) || e != want {
		t.Errorf("Parse(%q) = %v %v, not %v", s, c, e, want)
	}
}

// M1 to M4: the document's examples.
func TestExamples(t *testing.T) {
	c := Default()
	wantGood(t, c)
	if got := Lag(c); got != 200 {
		t.Error(got)
	}
	wantText(t, c, "rate=100 step=50 keys=4 gap=5 turn=2097152 pull=33554432 knees=2000,1000,500,100 weights=4,1,2,8 rounds=12 raises=6 flat=1000")
	seven := Default()
	seven.Keys = 7
	wantWrong(t, seven, "Keys")
	third := Default()
	third.Knees[2] = 0
	wantWrong(t, third, "Knees")
}

// M1: all numbers of the default, each time anew.
func TestDefault(t *testing.T) {
	first := Default()
	if first != standard() {
		t.Errorf("Default() = %v, not %v", first, standard())
	}
	first.Knees[0], first.Rate = 7, 7
	if got := Default(); got != standard() {
		t.Errorf("then Default() = %v", got)
	}
}

// M2, M3: each number at the ends of what it may be, and beyond them, near and far.
func TestCheckEnds(t *testing.T) {
	for _, f := range fields {
		for place := range f.first {
			for _, n := range []int64{f.least, f.least + 1, f.most - 1, f.most} {
				c := standard()
				put(&c, f.name, place, n)
				wantGood(t, c)
			}
			for _, n := range []int64{f.least - 1, f.most + 1, -f.most, -1, f.most + 1<<32, math.MaxInt64, math.MinInt64} {
				c := standard()
				put(&c, f.name, place, n)
				wantWrong(t, c, f.name)
			}
		}
	}
}

// M2: of several wrong fields the first one is told.
func TestCheckFirst(t *testing.T) {
	c := standard()
	for i := len(fields) - 1; i >= 0; i-- {
		f := fields[i]
		put(&c, f.name, len(f.first)-1, f.most+1)
		wantWrong(t, c, f.name)
	}
	seed := uint64(0x9e3779b97f4a7c15)
	for range 3000 {
		c, want := standard(), ""
		for _, f := range fields {
			for place := range f.first {
				if next(&seed)>>40%8 != 0 {
					continue
				}
				n := anyNumber(&seed)
				put(&c, f.name, place, n)
				if want == "" && (n < f.least || n > f.most) {
					want = f.name
				}
			}
		}
		if want == "" {
			wantGood(t, c)
		} else {
			wantWrong(t, c, want)
		}
	}
	wantWrong(t, api.Config{}, "Rate")
}

// M3: the least window and the greatest one; 0, whatever is wrong, be it far from Step and Keys.
func TestLag(t *testing.T) {
	for _, keys := range []int64{2, 3, 4, 5} {
		for _, step := range []int64{1, 2, 7, 999, 1000} {
			c := standard()
			c.Keys, c.Step = keys, step
			wantGood(t, c)
			c.Flat = -1
			wantWrong(t, c, "Flat")
		}
	}
}

// M4, M5, R7: what is written, of all configs there may be, is read.
func TestText(t *testing.T) {
	wantText(t, api.Config{}, "rate=0 step=0 keys=0 gap=0 turn=0 pull=0 knees=0,0,0,0 weights=0,0,0,0 rounds=0 raises=0 flat=0")
	wantText(t, of([]int64{1, 2, 3, 4, 5, 6, 7, 8, 9, 10, 11, 12, 13, 14, 15, 16, 17}), "rate=1 step=2 keys=3 gap=4 turn=5 pull=6 knees=7,8,9,10 weights=11,12,13,14 rounds=15 raises=16 flat=17")
	least, most := make([]int64, all), make([]int64, all)
	for i := range all {
		least[i], most[i] = math.MinInt64, math.MaxInt64
	}
	wantText(t, of(least), written(of(least)))
	wantText(t, of(most), written(of(most)))
	seed := uint64(88172645463325252)
	for range 3000 {
		c := anyConfig(&seed)
		wantText(t, c, written(c))
	}
}

// M4: texts of more than 500 bytes, counted in bytes, whatever stands in them; one of 500 is just no config's.
func TestParseLong(t *testing.T) {
	good := written(standard())
	for _, s := range []string{strings.Repeat("\x00", 501), good + strings.Repeat(" ", 501-len(good)), strings.Repeat("é", 251), strings.Repeat(good, 100)} {
		wantNoConfig(t, s, api.ErrLong)
	}
	for _, s := range []string{strings.Repeat("\x00", 500), good + strings.Repeat(" ", 500-len(good)), strings.Repeat("é", 250), strings.Repeat("0", 500-len(good)) + good} {
		wantNoConfig(t, s, api.ErrText)
	}
}

// M4: texts that Print writes of no config.
func TestParseText(t *testing.T) {
	good := written(standard())
	for _, s := range []string{
		"", " ", "rate", "rate=", "rate=100", "100", good + " ", " " + good, good + "\n", good + "\x00", good + ",1", good + good,
		good[1:], good[:len(good)-1] + "x", good[:strings.LastIndex(good, " ")], good[:strings.LastIndex(good, "=")+1],
		strings.ToUpper(good), "Rate" + good[4:], strings.ReplaceAll(good, " ", "  "), strings.ReplaceAll(good, " ", "\t"),
		strings.ReplaceAll(good, " ", ","), strings.ReplaceAll(good, ",", " "), strings.ReplaceAll(good, ",", ", "),
		strings.ReplaceAll(good, "=", ":"), strings.ReplaceAll(good, "=", " = "), strings.ReplaceAll(good, "=", "=="),
	} {
		wantNoConfig(t, s, api.ErrText)
	}
	for _, n := range []string{
		"", "+100", "0100", "00", "-0", "-", "--1", "-01", "1-", "1_0", "0x10", "1e2", "1.0", " 1", "1 ", "a", "1a", "\xff", "１", "٣",
		"9223372036854775808", "-9223372036854775809", "18446744073709551616", "18446744073709551716", strings.Repeat("9", 60),
	} {
		wantNoConfig(t, strings.Replace(good, "rate=100", "rate="+n, 1), api.ErrText)
		wantNoConfig(t, strings.Replace(good, ",500,", ","+n+",", 1), api.ErrText)
		wantNoConfig(t, strings.Replace(good, "flat=1000", "flat="+n, 1), api.ErrText)
	}
	wantNoConfig(t, strings.Replace(good, "step=50 keys=4", "keys=4 step=50", 1), api.ErrText)
	wantNoConfig(t, strings.Replace(good, "8 rounds", "8,8 rounds", 1), api.ErrText)
	wantNoConfig(t, strings.Replace(good, ",8 rounds", " rounds", 1), api.ErrText)
	wantNoConfig(t, strings.Replace(good, " gap=5", "", 1), api.ErrText)
	wantNoConfig(t, strings.Replace(good, " gap=5", " gap=5 gap=5", 1), api.ErrText)
}

// M4, M5: a config's text with one byte changed, left out or put in is read just if it is some config's text.
func TestParseNear(t *testing.T) {
	seed := uint64(0x2545f4914f6cdd1d)
	for range 20000 {
		s := written(anyConfig(&seed))
		i := int(next(&seed)>>20) % len(s)
		b := string("0123456789-+,= aRx\n\x80"[next(&seed)>>20%20])
		switch next(&seed) >> 40 % 3 {
		case 0:
			s = s[:i] + b + s[i+1:]
		case 1:
			s = s[:i] + s[i+1:]
		default:
			s = s[:i] + b + s[i:]
		}
		c, ok := scanned(s)
		if !ok {
			wantNoConfig(t, s, api.ErrText)
			continue
		}
		wantText(t, c, s)
	}
}

// scanned is the config with that text, read apart from the package.
func scanned(s string) (api.Config, bool) {
	var c api.Config
	k, w := &c.Knees, &c.Weights
	n, err := fmt.Sscanf(s, "rate=%d step=%d keys=%d gap=%d turn=%d pull=%d knees=%d,%d,%d,%d weights=%d,%d,%d,%d rounds=%d raises=%d flat=%d",
		&c.Rate, &c.Step, &c.Keys, &c.Gap, &c.Turn, &c.Pull, &k[0], &k[1], &k[2], &k[3], &w[0], &w[1], &w[2], &w[3], &c.Rounds, &c.Raises, &c.Flat)
	return c, n == all && err == nil && written(c) == s
}

// The iterator ends when its loop is left, at each number.
func TestNumbersLeft(t *testing.T) {
	for left := range all {
		c, gone := standard(), 0
		for _, n := range numbers(&c) {
			*n = -7
			if gone == left {
				break
			}
			gone++
		}
		if gone != left || strings.Count(Print(c), "-7") != left+1 {
			t.Errorf("left at %d: %d, %s", left, gone, Print(c))
		}
	}
}
