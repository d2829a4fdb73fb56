package entry_test

import (
	"bytes"
	"fmt"
	"math"
	"math/rand"
	"slices"
	"strings"
	"testing"

	"quidnunc/api"
	"quidnunc/entry"
	"quidnunc/octets"
)

const (
	greatest = 1<<32 - 1 // counter
	oldest   = 1<<31 - 1 // age
)

// at gives a stamp, that may be or not.
func at(counter, site int) api.Stamp { return api.Stamp{Counter: counter, Site: site} }

// live gives a live entry, that may be if these may be.
func live(key, value string, s api.Stamp) api.Entry {
	return api.Entry{Key: key, Value: value, Stamp: s, Act: s}
}

// dead gives a certificate, that may be if these may be.
func dead(key string, s, act api.Stamp, keepers, age int) api.Entry {
	return api.Entry{Key: key, Dead: true, Stamp: s, Act: act, Keepers: keepers, Age: age}
}

// text gives a text of so many bytes.
func text(n int) string { return strings.Repeat("x", n) }

// noStamps are such that may not be.
var noStamps = []api.Stamp{
	{}, at(0, 3), at(-1, 3), at(1<<32, 3), at(1<<32+7, 3), at(math.MaxInt, 3), at(math.MinInt, 3),
	at(7, -1), at(7, 12), at(7, 13), at(7, 255), at(7, 256), at(7, 1<<32), at(7, math.MaxInt), at(7, math.MinInt),
}

// noSites are numbers that no site has.
var noSites = []int{-1, -2, -12, 12, 13, 16, 63, 64, 65, 255, 256, 1 << 32, -1 << 32, math.MaxInt, math.MinInt}

// noKeepers, and noAges, are such as no certificate has.
var (
	noKeepers = []int{0, -1, -2, -4095, -4096, 4096, 4097, 8191, 65535, 65536, 65537, 1 << 32, 1<<32 + 1, math.MaxInt, math.MinInt}
	noAges    = []int{-1, -2, -oldest, -1 << 31, 1 << 31, 1<<31 + 1, 1 << 32, 1<<32 + 1, math.MaxInt, math.MinInt}
)

// plainCheck is what the document says of an entry that may be.
func plainCheck(e api.Entry) api.Errno {
	good := func(s api.Stamp) bool { return s.Counter > 0 && s.Counter <= greatest && s.Site >= 0 && s.Site <= 11 }
	if n := len(e.Key); n == 0 || n > 16 {
		return api.ErrKey
	}
	if n := len(e.Value); n > 32 || n > 0 && e.Dead {
		return api.ErrValue
	}
	if !good(e.Stamp) || !good(e.Act) || plainOrder(e.Act, e.Stamp) < 0 {
		return api.ErrArg
	}
	if !e.Dead && (e.Act != e.Stamp || e.Keepers != 0 || e.Age != 0) {
		return api.ErrArg
	}
	if e.Dead && (e.Keepers < 1 || e.Keepers > 4095 || e.Age < 0 || e.Age > oldest) {
		return api.ErrArg
	}
	return api.OK
}

// plainOrder is 1 if the first of two stamps is later, -1 if the second one is, else 0.
func plainOrder(a, b api.Stamp) int {
	for _, p := range [][2]int{{a.Counter, b.Counter}, {a.Site, b.Site}} {
		if p[0] > p[1] {
			return 1
		}
		if p[0] < p[1] {
			return -1
		}
	}
	return 0
}

// lowest gives a number's lowest bytes.
func lowest(v, n int) []byte {
	var b []byte
	for range n {
		b = append(b, byte(v))
		v >>= 8
	}
	return b
}

// plainBytes gives an entry's bytes, whether it may be or not, as far as its fields go into these.
func plainBytes(e api.Entry) []byte {
	flag := byte(0)
	if e.Dead {
		flag = 1
	}
	b := append([]byte{byte(len(e.Key))}, e.Key...)
	b = append(b, flag, byte(len(e.Value)))
	b = append(b, e.Value...)
	for _, s := range []api.Stamp{e.Stamp, e.Act} {
		b = append(b, lowest(s.Counter, 4)...)
		b = append(b, lowest(s.Site, 1)...)
	}
	b = append(b, lowest(e.Keepers, 2)...)
	return append(b, lowest(e.Age, 4)...)
}

// plainTake is what the document says of bytes at whose beginning an entry is looked for: it, and how many are left.
func plainTake(b []byte) (api.Entry, int, api.Errno) {
	var e api.Entry
	var code api.Errno
	take := func(n int) []byte {
		if code == api.OK && len(b) < n {
			code = api.ErrShort
		}
		if code != api.OK {
			return make([]byte, n)
		}
		taken := b[:n]
		b = b[n:]
		return taken
	}
	number := func(n int) int {
		v := 0
		for i, x := range take(n) {
			v += int(x) << (8 * i)
		}
		return v
	}
	read := func(most int) string {
		n := number(1)
		if code == api.OK && n > most {
			code = api.ErrForm
		}
		if code != api.OK {
			return ""
		}
		return string(take(n))
	}
	e.Key = read(16)
	flag := number(1)
	if code == api.OK && flag > 1 {
		code = api.ErrForm
	}
	e.Dead = flag == 1
	e.Value = read(32)
	e.Stamp = api.Stamp{Counter: number(4), Site: number(1)}
	e.Act = api.Stamp{Counter: number(4), Site: number(1)}
	e.Keepers, e.Age = number(2), number(4)
	if code == api.OK && plainCheck(e) != api.OK {
		code = api.ErrForm
	}
	if code != api.OK {
		return api.Entry{}, 0, code
	}
	return e, len(b), api.OK
}

// plainDecode is what the document says of bytes that are an entry, all of them.
func plainDecode(b []byte) (api.Entry, api.Errno) {
	e, left, code := plainTake(b)
	if code == api.OK && left > 0 {
		return api.Entry{}, api.ErrForm
	}
	return e, code
}

// some gives entries that may be, of all kinds.
func some() []api.Entry {
	l := []api.Entry{
		live("k", "", at(1, 0)),
		live("k", "v", at(258, 1)),
		live("k", text(32), at(greatest, 11)),
		live(text(16), "", at(1, 11)),
		live(text(16), text(32), at(greatest, 0)),
		live("\x00", "\x00\x00", at(1<<31, 7)),
		live("\xff\xfe\x80", "\xff\x00\x01", at(65536, 10)),
		live("grüße", "ünï", at(0x04030201, 5)),
		dead("k", at(1, 0), at(1, 0), 1, 0),
		dead("k", at(258, 1), at(258, 1), 3073, 1),
		dead("k", at(258, 1), at(258, 2), 4095, oldest),
		dead(text(16), at(greatest, 0), at(greatest, 11), 2048, 256),
		dead(text(16), at(1, 11), at(2, 0), 255, 65536),
		dead("\x00", at(1, 0), at(greatest, 11), 256, 0x04030201),
		dead("\xff", at(1<<31, 3), at(1<<31, 3), 1, oldest),
	}
	return l
}

// drawText draws a text of so many bytes.
func drawText(d *rand.Rand, n int) string {
	b := make([]byte, n)
	d.Read(b)
	return string(b)
}

// drawStamp draws one that may be, often near others.
func drawStamp(d *rand.Rand) api.Stamp {
	if d.Intn(2) == 0 {
		return at(1+d.Intn(3), d.Intn(3))
	}
	return at(1+d.Intn(greatest), d.Intn(12))
}

// drawEntry draws one that may be.
func drawEntry(d *rand.Rand) api.Entry {
	key := drawText(d, 1+d.Intn(16))
	s := drawStamp(d)
	if d.Intn(2) == 0 {
		return live(key, drawText(d, d.Intn(33)), s)
	}
	act := drawStamp(d)
	if plainOrder(act, s) < 0 {
		s, act = act, s
	}
	return dead(key, s, act, 1+d.Intn(4095), d.Intn(oldest)>>d.Intn(31))
}

// pick gives one of some that is drawn.
func pick[T any](d *rand.Rand, l ...T) T { return l[d.Intn(len(l))] }

// drawAny draws an entry that may be or not.
func drawAny(d *rand.Rand) api.Entry {
	e := drawEntry(d)
	for range d.Intn(3) {
		switch d.Intn(7) {
		case 0:
			e.Key = text(pick(d, 0, 1, 16, 17, 255, 256, 300))
		case 1:
			e.Value = text(pick(d, 0, 1, 32, 33, 255, 256, 300))
		case 2:
			e.Dead = !e.Dead
		case 3:
			e.Stamp = pick(d, append(noStamps, drawStamp(d), e.Act)...)
		case 4:
			e.Act = pick(d, append(noStamps, drawStamp(d), e.Stamp)...)
		case 5:
			e.Keepers = pick(d, append(noKeepers, 1, 4095, 0)...)
		case 6:
			e.Age = pick(d, append(noAges, 1, oldest, 0)...)
		}
	}
	return e
}

// checks fails the test where Check, or Encode, answers another error of an entry, or something beside one.
func checks(t *testing.T, what string, e api.Entry, code api.Errno) {
	t.Helper()
	if got := entry.Check(e); got != code {
		t.Errorf("%s: Check of %v: %d, want %d", what, e, got, code)
	}
	b, got := entry.Encode(e)
	if got != code || code != api.OK && len(b) != 0 {
		t.Errorf("%s: Encode of %v: %v, error %d; want error %d", what, e, b, got, code)
	}
}

// isIt fails the test where an answer isn't the entry, or there is an error beside it.
func isIt(t *testing.T, what string, got api.Entry, code api.Errno, want api.Entry) {
	t.Helper()
	if code != api.OK || got != want {
		t.Errorf("%s: %v, error %d; want %v", what, got, code, want)
	}
}

// isNone fails the test where there is another error, or an entry beside it.
func isNone(t *testing.T, what string, got api.Entry, code, want api.Errno) {
	t.Helper()
	if code != want || got != (api.Entry{}) {
		t.Errorf("%s: %v, error %d; want none, %d", what, got, code, want)
	}
}

// P5.1: Check.

func TestEntriesThatMayBe(t *testing.T) {
	for i, e := range some() {
		checks(t, fmt.Sprint(i), e, api.OK)
	}
}

func TestKeys(t *testing.T) {
	s := at(7, 3)
	for n, code := range map[int]api.Errno{
		0: api.ErrKey, 1: api.OK, 2: api.OK, 15: api.OK, 16: api.OK,
		17: api.ErrKey, 18: api.ErrKey, 32: api.ErrKey, 255: api.ErrKey, 256: api.ErrKey, 257: api.ErrKey, 100000: api.ErrKey,
	} {
		checks(t, fmt.Sprint("a live one's key of ", n), live(text(n), "v", s), code)
		checks(t, fmt.Sprint("a certificate's key of ", n), dead(text(n), s, s, 1, 0), code)
	}
	checks(t, "8 runes of 16 bytes", live(strings.Repeat("ü", 8), "v", s), api.OK)
	checks(t, "9 runes of 18 bytes", live(strings.Repeat("ü", 9), "v", s), api.ErrKey)
	for b := range 256 {
		checks(t, "a key of one byte", live(string([]byte{byte(b)}), "v", s), api.OK)
	}
}

func TestValues(t *testing.T) {
	s := at(7, 3)
	for n, code := range map[int]api.Errno{
		0: api.OK, 1: api.OK, 16: api.OK, 17: api.OK, 31: api.OK, 32: api.OK,
		33: api.ErrValue, 34: api.ErrValue, 255: api.ErrValue, 256: api.ErrValue, 257: api.ErrValue, 100000: api.ErrValue,
	} {
		checks(t, fmt.Sprint("a live one's value of ", n), live("k", text(n), s), code)
		e := dead("k", s, s, 1, 0)
		e.Value = text(n)
		if n > 0 {
			code = api.ErrValue
		}
		checks(t, fmt.Sprint("a certificate's value of ", n), e, code)
	}
	checks(t, "16 runes of 32 bytes", live("k", strings.Repeat("ü", 16), s), api.OK)
	checks(t, "17 runes of 34 bytes", live("k", strings.Repeat("ü", 17), s), api.ErrValue)
	e := dead("k", s, s, 1, 0)
	e.Value = "\x00"
	checks(t, "a certificate's value of a zero byte", e, api.ErrValue)
}

func TestStampsThatMayBe(t *testing.T) {
	for _, counter := range []int{1, 2, 255, 256, 65535, 65536, 1<<31 - 1, 1 << 31, greatest - 1, greatest} {
		for site := range 12 {
			s := at(counter, site)
			checks(t, "live", live("k", "v", s), api.OK)
			checks(t, "a certificate", dead("k", s, s, 1, 0), api.OK)
			checks(t, "the Stamp alone", dead("k", s, at(greatest, 11), 1, 0), api.OK)
			checks(t, "the Act alone", dead("k", at(1, 0), s, 1, 0), api.OK)
		}
	}
}

func TestStampsThatMayNotBe(t *testing.T) {
	for _, s := range noStamps {
		checks(t, "live", live("k", "v", s), api.ErrArg)
		checks(t, "a certificate", dead("k", s, s, 1, 0), api.ErrArg)
		for _, other := range []api.Stamp{at(1, 0), at(7, 3), at(greatest, 11)} {
			checks(t, "a certificate's Stamp", dead("k", s, other, 1, 0), api.ErrArg)
			checks(t, "a certificate's Act", dead("k", other, s, 1, 0), api.ErrArg)
			e := live("k", "v", other)
			e.Stamp = s
			checks(t, "a live one's Stamp", e, api.ErrArg)
			e = live("k", "v", other)
			e.Act = s
			checks(t, "a live one's Act", e, api.ErrArg)
		}
	}
}

func TestActs(t *testing.T) {
	for i, k := range []struct {
		s, act api.Stamp
		alive  api.Errno // of a live one
		dead   api.Errno // of a certificate
	}{
		{at(7, 3), at(7, 3), api.OK, api.OK},
		{at(1, 0), at(1, 0), api.OK, api.OK},
		{at(greatest, 11), at(greatest, 11), api.OK, api.OK},
		{at(7, 3), at(8, 3), api.ErrArg, api.OK}, // later
		{at(7, 3), at(8, 0), api.ErrArg, api.OK},
		{at(7, 3), at(7, 4), api.ErrArg, api.OK},
		{at(7, 3), at(greatest, 11), api.ErrArg, api.OK},
		{at(1, 0), at(greatest, 0), api.ErrArg, api.OK},
		{at(1, 0), at(1, 11), api.ErrArg, api.OK},
		{at(7, 3), at(6, 3), api.ErrArg, api.ErrArg}, // earlier
		{at(7, 3), at(6, 11), api.ErrArg, api.ErrArg},
		{at(7, 3), at(7, 2), api.ErrArg, api.ErrArg},
		{at(7, 3), at(1, 0), api.ErrArg, api.ErrArg},
		{at(greatest, 0), at(1, 0), api.ErrArg, api.ErrArg},
	} {
		e := live("k", "v", k.s)
		e.Act = k.act
		checks(t, fmt.Sprint(i, ", live"), e, k.alive)
		checks(t, fmt.Sprint(i, ", a certificate"), dead("k", k.s, k.act, 1, 0), k.dead)
	}
}

func TestKeepersThatMayBe(t *testing.T) {
	s := at(7, 3)
	for keepers := 1; keepers <= 4095; keepers++ {
		checks(t, "a certificate", dead("k", s, s, keepers, 0), api.OK)
		e := live("k", "v", s)
		e.Keepers = keepers
		checks(t, "a live one", e, api.ErrArg)
	}
	for _, keepers := range noKeepers {
		checks(t, "a certificate", dead("k", s, s, keepers, 0), api.ErrArg)
		if keepers != 0 {
			e := live("k", "v", s)
			e.Keepers = keepers
			checks(t, "a live one", e, api.ErrArg)
		}
	}
}

func TestAges(t *testing.T) {
	s := at(7, 3)
	for _, age := range []int{0, 1, 2, 255, 256, 65536, 1 << 30, oldest - 1, oldest} {
		checks(t, "a certificate", dead("k", s, s, 1, age), api.OK)
		if age != 0 {
			e := live("k", "v", s)
			e.Age = age
			checks(t, "a live one", e, api.ErrArg)
		}
	}
	for _, age := range noAges {
		checks(t, "a certificate", dead("k", s, s, 1, age), api.ErrArg)
		e := live("k", "v", s)
		e.Age = age
		checks(t, "a live one", e, api.ErrArg)
	}
}

func TestOneKindWithTheOthersFields(t *testing.T) {
	for i, e := range some() {
		e.Dead = !e.Dead
		code := api.ErrArg
		if e.Dead && e.Value != "" {
			code = api.ErrValue
		}
		checks(t, fmt.Sprint(i), e, code)
	}
	checks(t, "the zero entry", api.Entry{}, api.ErrKey)
}

// Of several errors that one is told that is named first.
func TestSeveralErrors(t *testing.T) {
	for _, isDead := range []bool{false, true} {
		for wrong := range 1 << 7 {
			s := at(7, 3)
			e := api.Entry{Key: "k", Dead: isDead, Stamp: s, Act: s}
			if isDead {
				e.Keepers = 1
			}
			has := func(bit int) bool { return wrong>>bit&1 == 1 }
			if has(0) {
				e.Key = text(17 * (wrong >> 1 & 1))
			}
			if has(1) {
				e.Value = text(33)
			}
			if has(2) {
				e.Stamp = at(0, 3)
			}
			if has(3) {
				e.Act = at(7, 12)
			}
			if has(4) {
				e.Act.Counter = 6
			}
			if has(5) {
				e.Keepers = 4096
			}
			if has(6) {
				e.Age = -1
			}
			code := api.OK
			switch {
			case has(0):
				code = api.ErrKey
			case has(1):
				code = api.ErrValue
			case wrong != 0:
				code = api.ErrArg
			}
			checks(t, fmt.Sprintf("dead %v, wrong %07b", isDead, wrong), e, code)
		}
	}
}

func TestCheckOfAnyEntries(t *testing.T) {
	d := rand.New(rand.NewSource(1))
	var codes [16]int
	for range 40000 {
		e := drawAny(d)
		code := plainCheck(e)
		codes[code]++
		checks(t, "drawn", e, code)
	}
	for _, code := range []api.Errno{api.OK, api.ErrKey, api.ErrValue, api.ErrArg} {
		if codes[code] < 1000 {
			t.Errorf("of the error %d only %d were drawn", code, codes[code])
		}
	}
}

// P5.1: Newer.

func TestNewer(t *testing.T) {
	for i, k := range []struct {
		s, act api.Stamp // the one's
		o, oct api.Stamp // the other one's
		want   bool
	}{
		{at(7, 3), at(7, 3), at(6, 3), at(6, 3), true},
		{at(6, 3), at(6, 3), at(7, 3), at(7, 3), false},
		{at(7, 3), at(7, 3), at(7, 2), at(7, 2), true},
		{at(7, 2), at(7, 2), at(7, 3), at(7, 3), false},
		{at(7, 0), at(7, 0), at(6, 11), at(6, 11), true},
		{at(7, 3), at(7, 3), at(7, 3), at(7, 3), false}, // just the same
		{at(7, 3), at(9, 0), at(7, 3), at(8, 11), true}, // one Stamp: the Act tells
		{at(7, 3), at(8, 11), at(7, 3), at(9, 0), false},
		{at(7, 3), at(9, 1), at(7, 3), at(9, 0), true},
		{at(7, 3), at(9, 0), at(7, 3), at(9, 1), false},
		{at(7, 3), at(9, 0), at(7, 3), at(9, 0), false},
		{at(7, 3), at(8, 0), at(7, 3), at(7, 3), true},   // woken
		{at(8, 0), at(8, 0), at(7, 3), at(900, 3), true}, // a later Stamp, whatever the Acts are
		{at(7, 3), at(900, 3), at(8, 0), at(8, 0), false},
		{at(7, 4), at(7, 4), at(7, 3), at(greatest, 11), true},
		{at(7, 3), at(greatest, 11), at(7, 4), at(7, 4), false},
		{at(greatest, 11), at(greatest, 11), at(1, 0), at(1, 0), true},
		{at(0, 0), at(0, 0), at(-1, 0), at(5, 0), true}, // also of such as may not be
		{at(-1, 0), at(5, 0), at(0, 0), at(0, 0), false},
		{at(math.MaxInt, 0), at(0, 0), at(math.MinInt, 0), at(0, 0), true},
		{at(math.MinInt, 0), at(0, 0), at(math.MaxInt, 0), at(0, 0), false},
		{at(0, math.MaxInt), at(0, 0), at(0, math.MinInt), at(0, 0), true},
		{at(5, 5), at(math.MinInt, 0), at(5, 5), at(math.MaxInt, 0), false},
		{at(5, 5), at(math.MaxInt, 0), at(5, 5), at(math.MinInt, 0), true},
		{at(5, 5), at(1, 12), at(5, 5), at(1, -1), true},
	} {
		// Nothing else tells, whatever the two are.
		for _, a := range []api.Entry{{}, live("a", "v", at(1, 1)), dead("z", at(1, 1), at(1, 1), 9, 9)} {
			for _, b := range []api.Entry{{}, live("b", "w", at(2, 2)), dead("y", at(2, 2), at(2, 2), 99, 99)} {
				a.Stamp, a.Act, b.Stamp, b.Act = k.s, k.act, k.o, k.oct
				if got := entry.Newer(a, b); got != k.want {
					t.Errorf("%d: %v than %v: %v, want %v", i, a, b, got, k.want)
				}
			}
		}
	}
}

func TestNewerIsOneOrder(t *testing.T) {
	var l []api.Entry // each newer than all ahead
	stamps := []api.Stamp{
		at(math.MinInt, 0), at(-1, 11), at(0, -1), {}, at(1, 0), at(1, 11), at(2, 0),
		at(greatest, 0), at(greatest, 11), at(greatest, 12), at(1<<32, 0), at(math.MaxInt, math.MaxInt),
	}
	for i, s := range stamps {
		for j, act := range stamps {
			l = append(l, api.Entry{Key: text(20 - i), Value: text(20 - j), Dead: j%2 == i%3, Stamp: s, Act: act, Keepers: -i, Age: -j})
		}
	}
	for i, a := range l {
		for j, b := range l {
			if got := entry.Newer(a, b); got != (i > j) {
				t.Errorf("%v than %v: %v", a, b, got)
			}
		}
	}
}

// P5.1: Alike.

// turned gives an entry with each of its fields turned to another one, one by one; the last one of all is the age.
func turned(e api.Entry) (unlike []api.Entry, older api.Entry) {
	for _, turn := range []func(e *api.Entry){
		func(e *api.Entry) { e.Key += "x" },
		func(e *api.Entry) { e.Key = strings.ToUpper(e.Key) + "\x00" },
		func(e *api.Entry) { e.Value += "\x00" },
		func(e *api.Entry) { e.Dead = !e.Dead },
		func(e *api.Entry) { e.Stamp.Counter++ },
		func(e *api.Entry) { e.Stamp.Site++ },
		func(e *api.Entry) { e.Act.Counter-- },
		func(e *api.Entry) { e.Act.Site-- },
		func(e *api.Entry) { e.Keepers ^= 1 },
		func(e *api.Entry) { e.Keepers ^= 1 << 40 },
	} {
		x := e
		turn(&x)
		unlike = append(unlike, x)
	}
	older = e
	older.Age++
	return unlike, older
}

// alike fails the test where two are alike and shouldn't be, or the other way round.
func alike(t *testing.T, a, b api.Entry, want bool) {
	t.Helper()
	if entry.Alike(a, b) != want || entry.Alike(b, a) != want {
		t.Errorf("%v and %v: alike %v, %v; want %v", a, b, entry.Alike(a, b), entry.Alike(b, a), want)
	}
}

func TestAlike(t *testing.T) {
	others := []api.Entry{{}, {Age: 5}, {Key: "k", Dead: true, Keepers: math.MinInt, Age: math.MinInt, Act: at(-1, -1)}, live(text(300), text(300), at(0, 0))}
	for _, e := range append(some(), others...) {
		alike(t, e, e, true)
		unlike, older := turned(e)
		alike(t, e, older, true)
		for _, age := range append(noAges, 0, 1, oldest) {
			x := e
			x.Age = age
			alike(t, e, x, true)
			for _, u := range unlike {
				u.Age = age
				alike(t, e, u, false)
			}
		}
	}
}

func TestAlikeOfAnyTwo(t *testing.T) {
	d := rand.New(rand.NewSource(2))
	for range 20000 {
		a := drawAny(d)
		b := pick(d, a, drawAny(d))
		if d.Intn(2) == 0 {
			b.Age = pick(d, 0, 1, oldest, -1, math.MaxInt)
		}
		want := a.Key == b.Key && a.Value == b.Value && a.Dead == b.Dead &&
			plainOrder(a.Stamp, b.Stamp) == 0 && plainOrder(a.Act, b.Act) == 0 && a.Keepers == b.Keepers
		alike(t, a, b, want)
	}
}

// P5.1: Mark.

func TestMark(t *testing.T) {
	for i, k := range []struct {
		e    api.Entry
		want api.Mark
	}{
		{live("k", "v", at(7, 3)), api.Mark{Act: at(7, 3), Key: "k"}},
		{dead("k", at(7, 3), at(7, 3), 1, 0), api.Mark{Act: at(7, 3), Key: "k"}},
		{dead("kk", at(7, 3), at(9, 0), 1, 4), api.Mark{Act: at(9, 0), Key: "kk"}}, // not the Stamp
		{live(text(16), text(32), at(greatest, 11)), api.Mark{Act: at(greatest, 11), Key: text(16)}},
		{api.Entry{}, api.Mark{}}, // also of such as may not be
		{api.Entry{Stamp: at(7, 3)}, api.Mark{}},
		{api.Entry{Key: text(300), Stamp: at(7, 3), Act: at(-1, 12)}, api.Mark{Act: at(-1, 12), Key: text(300)}},
		{api.Entry{Value: "v", Act: at(math.MinInt, math.MaxInt)}, api.Mark{Act: at(math.MinInt, math.MaxInt)}},
	} {
		if got := entry.Mark(k.e); got != k.want {
			t.Errorf("%d: of %v: %v, want %v", i, k.e, got, k.want)
		}
	}
}

// P5.2: Put.

func TestPut(t *testing.T) {
	for _, key := range []string{"k", "\x00", "grüße", text(15), text(16)} {
		for _, value := range []string{"", "v", "\x00", "ünï", text(31), text(32)} {
			for _, s := range []api.Stamp{at(1, 0), at(258, 1), at(1<<31, 11), at(greatest, 11)} {
				e, code := entry.Put(key, value, s)
				isIt(t, "put", e, code, api.Entry{Key: key, Value: value, Stamp: s, Act: s})
			}
		}
	}
}

func TestPutOfWhatMayNotBe(t *testing.T) {
	good := at(7, 3)
	for i, k := range []struct {
		key, value string
		s          api.Stamp
		want       api.Errno
	}{
		{"", "v", good, api.ErrKey},
		{text(17), "v", good, api.ErrKey},
		{text(256), "v", good, api.ErrKey},
		{"k", text(33), good, api.ErrValue},
		{"k", text(256), good, api.ErrValue},
		{"k", "v", api.Stamp{}, api.ErrArg},
		{"", text(33), at(0, 0), api.ErrKey},
		{text(17), "v", at(0, 0), api.ErrKey},
		{"", text(33), good, api.ErrKey},
		{"k", text(33), at(0, 0), api.ErrValue},
	} {
		e, code := entry.Put(k.key, k.value, k.s)
		isNone(t, fmt.Sprint(i), e, code, k.want)
	}
	for _, s := range noStamps {
		e, code := entry.Put("k", "v", s)
		isNone(t, fmt.Sprint("at ", s), e, code, api.ErrArg)
	}
}

// P5.2: Delete.

func TestDelete(t *testing.T) {
	for _, key := range []string{"k", "\x00", "grüße", text(15), text(16)} {
		for _, s := range []api.Stamp{at(1, 0), at(258, 1), at(1<<31, 11), at(greatest, 11)} {
			for _, keepers := range []int{1, 2, 3, 1000, 2048, 3073, 4094, 4095} {
				e, code := entry.Delete(key, s, keepers)
				isIt(t, "deleted", e, code, api.Entry{Key: key, Dead: true, Stamp: s, Act: s, Keepers: keepers})
			}
		}
	}
}

func TestDeleteOfWhatMayNotBe(t *testing.T) {
	for _, key := range []string{"", text(17), text(256)} {
		for _, s := range append(noStamps, at(7, 3)) {
			for _, keepers := range append(noKeepers, 1) {
				e, code := entry.Delete(key, s, keepers)
				isNone(t, fmt.Sprint("of a key of ", len(key), " at ", s, " with ", keepers), e, code, api.ErrKey)
			}
		}
	}
	for _, s := range noStamps {
		for _, keepers := range append(noKeepers, 1, 4095) {
			e, code := entry.Delete("k", s, keepers)
			isNone(t, fmt.Sprint("at ", s, " with ", keepers), e, code, api.ErrArg)
		}
	}
	for _, keepers := range noKeepers {
		e, code := entry.Delete("k", at(7, 3), keepers)
		isNone(t, fmt.Sprint("with ", keepers), e, code, api.ErrArg)
	}
}

// P5.2: Wake.

func TestWake(t *testing.T) {
	for i, k := range []struct {
		s, act, by api.Stamp
		woken      bool
	}{
		{at(7, 3), at(7, 3), at(8, 3), true}, // later
		{at(7, 3), at(7, 3), at(8, 0), true},
		{at(7, 3), at(7, 3), at(7, 4), true},
		{at(7, 3), at(7, 3), at(greatest, 11), true},
		{at(7, 3), at(9, 2), at(10, 0), true},
		{at(7, 3), at(9, 2), at(9, 3), true},
		{at(greatest, 10), at(greatest, 10), at(greatest, 11), true},
		{at(7, 3), at(7, 3), at(7, 3), false}, // just it
		{at(7, 3), at(9, 2), at(9, 2), false},
		{at(greatest, 11), at(greatest, 11), at(greatest, 11), false},
		{at(7, 3), at(7, 3), at(7, 2), false}, // earlier
		{at(7, 3), at(7, 3), at(6, 11), false},
		{at(7, 3), at(9, 2), at(9, 1), false},
		{at(7, 3), at(9, 2), at(8, 11), false}, // later than the Stamp, but not than the Act
		{at(7, 3), at(9, 2), at(7, 3), false},
		{at(7, 3), at(9, 2), at(1, 0), false},
		{at(greatest, 10), at(greatest, 11), at(greatest, 10), false},
	} {
		for _, keepers := range []int{1, 3073, 4095} {
			for _, age := range []int{0, 1, oldest} {
				old := dead("key", k.s, k.act, keepers, age)
				e, code := entry.Wake(old, k.by)
				what := fmt.Sprint(i, ": ", old, " by ", k.by)
				if k.woken {
					isIt(t, what, e, code, dead("key", k.s, k.by, keepers, 0))
				} else {
					isNone(t, what, e, code, api.ErrArg)
				}
			}
		}
	}
}

func TestWakeByAnActThatMayNotBe(t *testing.T) {
	for _, e := range []api.Entry{dead("k", at(1, 0), at(1, 0), 1, 0), dead("k", at(7, 3), at(7, 3), 1, 0), dead("k", at(1, 0), at(greatest, 11), 4095, oldest)} {
		for _, act := range noStamps {
			got, code := entry.Wake(e, act)
			isNone(t, fmt.Sprint(e, " by ", act), got, code, api.ErrArg)
		}
	}
}

func TestWakeOfALiveOne(t *testing.T) {
	for _, act := range append(noStamps, at(1, 0), at(7, 3), at(8, 0), at(greatest, 11)) {
		got, code := entry.Wake(live("k", "", at(7, 3)), act)
		isNone(t, fmt.Sprint("by ", act), got, code, api.ErrArg)
	}
}

func TestWakeOfWhatMayNotBe(t *testing.T) {
	d := rand.New(rand.NewSource(3))
	var codes [16]int
	for range 20000 {
		e := drawAny(d)
		act := pick(d, append(noStamps, drawStamp(d), e.Act, at(greatest, 11))...)
		want := plainCheck(e)
		actCode := plainCheck(live("k", "", act))
		if want == api.OK && (!e.Dead || actCode != api.OK || plainOrder(act, e.Act) <= 0) {
			want = api.ErrArg
		}
		codes[want]++
		got, code := entry.Wake(e, act)
		what := fmt.Sprint(e, " by ", act)
		if want != api.OK {
			isNone(t, what, got, code, want)
			continue
		}
		isIt(t, what, got, code, api.Entry{Key: e.Key, Dead: true, Stamp: e.Stamp, Act: act, Keepers: e.Keepers})
	}
	for _, code := range []api.Errno{api.OK, api.ErrKey, api.ErrValue, api.ErrArg} {
		if codes[code] < 200 {
			t.Errorf("of the error %d only %d were drawn", code, codes[code])
		}
	}
}

// A certificate that is woken again and again is each time newer than it was.
func TestWakeAgain(t *testing.T) {
	e, code := entry.Delete("k", at(7, 3), 3073)
	if code != api.OK {
		t.Fatal(code)
	}
	for i, by := range []api.Stamp{at(7, 4), at(8, 0), at(8, 1), at(900, 0), at(greatest, 0), at(greatest, 11)} {
		e.Age = i * 1000
		woken, code := entry.Wake(e, by)
		isIt(t, fmt.Sprint(i), woken, code, dead("k", at(7, 3), by, 3073, 0))
		if !entry.Newer(woken, e) || entry.Newer(e, woken) || entry.Mark(woken) != (api.Mark{Act: by, Key: "k"}) {
			t.Error(woken, " isn't newer than ", e)
		}
		e = woken
	}
}

// P5.3: Keepers.

func TestExample(t *testing.T) {
	if got := entry.Keepers(10, 3, 12); got != 3073 {
		t.Error(got)
	}
}

func TestKeepers(t *testing.T) {
	for i, k := range []struct{ site, retain, nodes, want int }{
		{0, 1, 1, 1},
		{0, 1, 2, 1},
		{1, 1, 2, 2},
		{0, 2, 2, 3},
		{1, 2, 2, 3},
		{2, 1, 3, 4},
		{2, 2, 3, 5}, // over the end
		{1, 2, 3, 6},
		{11, 1, 12, 2048},
		{11, 2, 12, 2049}, // over the end
		{11, 11, 12, 3071},
		{11, 12, 12, 4095},
		{0, 11, 12, 2047},
		{0, 12, 12, 4095},
		{5, 3, 6, 35}, // 5, 0 and 1, not 6 and 7
		{0, 0, 2, 0},  // retain of 0
		{0, 3, 2, 0},  // of nodes + 1
		{0, 13, 12, 0},
		{0, 2, 1, 0},
		{-1, 1, 3, 0}, // no such site
		{3, 1, 3, 0},
		{12, 1, 12, 0},
		{1, 1, 1, 0},
		{0, 1, 0, 0}, // nodes of 0
		{0, 0, 0, 0},
		{0, 1, 13, 0}, // of 13
		{12, 1, 13, 0},
		{0, 13, 13, 0},
		{0, 1, -1, 0},
		{-1, -1, -1, 0},
		{0, -1, 3, 0},
	} {
		if got := entry.Keepers(k.site, k.retain, k.nodes); got != k.want {
			t.Errorf("%d: Keepers(%d, %d, %d): %d, want %d", i, k.site, k.retain, k.nodes, got, k.want)
		}
	}
}

// plainKeepers asks of each site there may be whether it is one of them.
func plainKeepers(site, retain, nodes int) int {
	if nodes < 1 || nodes > 12 || site < 0 || site > nodes-1 || retain < 1 || retain > nodes {
		return 0
	}
	sum, one := 0, 1
	for s := range nodes {
		behind := s - site
		if behind < 0 {
			behind += nodes
		}
		if behind < retain {
			sum += one
		}
		one += one
	}
	return sum
}

func TestKeepersOfAny(t *testing.T) {
	numbers := []int{math.MinInt, math.MinInt + 1, -1 << 32, 1 << 32, 1<<32 + 1, math.MaxInt - 1, math.MaxInt, 63, 64, 65}
	for n := -4; n <= 26; n++ {
		numbers = append(numbers, n)
	}
	for _, nodes := range numbers {
		for _, site := range numbers {
			for _, retain := range numbers {
				if got, want := entry.Keepers(site, retain, nodes), plainKeepers(site, retain, nodes); got != want {
					t.Errorf("Keepers(%d, %d, %d): %d, want %d", site, retain, nodes, got, want)
				}
			}
		}
	}
}

// P5.3: Duty.

func TestDuty(t *testing.T) {
	s := at(7, 3)
	for keepers := 1; keepers <= 4095; keepers++ {
		e := dead("k", s, s, keepers, keepers%3)
		for site, one := 0, 1; site < 12; site, one = site+1, one+one {
			if got, want := entry.Duty(e, site), keepers/one%2 == 1; got != want {
				t.Fatalf("%d of %d: %v", site, keepers, got)
			}
		}
	}
}

func TestDutyOfNoSite(t *testing.T) {
	s := at(7, 3)
	for _, keepers := range append(noKeepers, 1, 2048, 4095) {
		for _, site := range noSites {
			if entry.Duty(dead("k", s, s, keepers, 0), site) {
				t.Errorf("%d, with keepers %d", site, keepers)
			}
		}
	}
}

func TestDutyOfALiveOne(t *testing.T) {
	for _, keepers := range append(noKeepers, 1, 2048, 4095) {
		e := live("k", "", at(7, 3))
		e.Keepers = keepers // such a one may not be, but may be asked
		for site := range 12 {
			if entry.Duty(e, site) {
				t.Errorf("%d, with keepers %d", site, keepers)
			}
		}
	}
}

func TestDutyOfWhomKeepersTells(t *testing.T) {
	for nodes := 1; nodes <= 12; nodes++ {
		for site := range nodes {
			for retain := 1; retain <= nodes; retain++ {
				e, code := entry.Delete("k", at(7, site), entry.Keepers(site, retain, nodes))
				if code != api.OK {
					t.Fatal(code)
				}
				for s := range 12 {
					want := s < nodes && (s-site+nodes)%nodes < retain
					if entry.Duty(e, s) != want {
						t.Errorf("%d of Keepers(%d, %d, %d): %v", s, site, retain, nodes, !want)
					}
				}
			}
		}
	}
}

// P5.4: Encode.

func TestEncode(t *testing.T) {
	for i, k := range []struct {
		e    api.Entry
		want []byte
	}{
		{live("k", "v", at(258, 1)), []byte{1, 107, 0, 1, 118, 2, 1, 0, 0, 1, 2, 1, 0, 0, 1, 0, 0, 0, 0, 0, 0}},
		{live("k", "", at(1, 0)), []byte{1, 107, 0, 0, 1, 0, 0, 0, 0, 1, 0, 0, 0, 0, 0, 0, 0, 0, 0, 0}},
		{live("ab", "cde", at(0x04030201, 11)), []byte{2, 97, 98, 0, 3, 99, 100, 101, 1, 2, 3, 4, 11, 1, 2, 3, 4, 11, 0, 0, 0, 0, 0, 0}},
		{live("\x00", "\x00\x00", at(greatest, 5)), []byte{1, 0, 0, 2, 0, 0, 255, 255, 255, 255, 5, 255, 255, 255, 255, 5, 0, 0, 0, 0, 0, 0}},
		{dead("k", at(258, 1), at(259, 2), 3073, 7), []byte{1, 107, 1, 0, 2, 1, 0, 0, 1, 3, 1, 0, 0, 2, 1, 12, 7, 0, 0, 0}},
		{dead("k", at(0x04030201, 9), at(0x08070605, 10), 4095, 0x0c0b0a09), []byte{1, 107, 1, 0, 1, 2, 3, 4, 9, 5, 6, 7, 8, 10, 255, 15, 9, 10, 11, 12}},
		{dead("\xff", at(1, 0), at(greatest, 11), 256, oldest), []byte{1, 255, 1, 0, 1, 0, 0, 0, 0, 255, 255, 255, 255, 11, 0, 1, 255, 255, 255, 127}},
	} {
		b, code := entry.Encode(k.e)
		if code != api.OK || !bytes.Equal(b, k.want) {
			t.Errorf("%d: of %v: %v, error %d; want %v", i, k.e, b, code, k.want)
		}
		e, code := entry.Decode(k.want)
		isIt(t, fmt.Sprint(i, ", decoded"), e, code, k.e)
	}
}

// P5.4: Decode.

// decodes fails the test where Decode, or Take, answers something else of bytes than the document says.
func decodes(t *testing.T, what string, b []byte) {
	t.Helper()
	want, wantCode := plainDecode(b)
	if got, code := entry.Decode(b); got != want || code != wantCode {
		t.Errorf("%s: Decode of %v: %v, error %d; want %v, %d", what, b, got, code, want, wantCode)
	}
	takes(t, what, octets.Read(b), b)
}

// takes fails the test where Take answers something else of a reader that is at the beginning of bytes.
func takes(t *testing.T, what string, r *octets.Reader, b []byte) {
	t.Helper()
	want, left, wantCode := plainTake(b)
	got := entry.Take(r)
	if got != want || r.Err() != wantCode || wantCode == api.OK && r.Left() != left {
		t.Errorf("%s: Take of %v: %v, error %d, left %d; want %v, %d, %d", what, b, got, r.Err(), r.Left(), want, wantCode, left)
	}
}

// isRefused fails the test where bytes aren't refused by just this error.
func isRefused(t *testing.T, what string, b []byte, want api.Errno) {
	t.Helper()
	e, code := entry.Decode(b)
	isNone(t, what, e, code, want)
	decodes(t, what, b)
}

func TestEachShorterLength(t *testing.T) {
	for i, e := range some() {
		b := plainBytes(e)
		for n := range len(b) {
			isRefused(t, fmt.Sprint(i, ": ", n, " of ", len(b)), b[:n], api.ErrShort)
		}
		decodes(t, "all of them", b)
	}
	isRefused(t, "nil", nil, api.ErrShort)
	isRefused(t, "none", []byte{}, api.ErrShort)
}

func TestBytesBehind(t *testing.T) {
	for i, e := range some() {
		b := plainBytes(e)
		for _, more := range [][]byte{{0}, {1}, {255}, {0, 0}, b, make([]byte, 1000)} {
			all := slices.Concat(b, more)
			got, code := entry.Decode(all)
			isNone(t, fmt.Sprint(i, ": ", len(more), " behind"), got, code, api.ErrForm)
			decodes(t, fmt.Sprint(i, ": ", len(more), " behind"), all)
		}
	}
}

// fields gives bytes of which each part is told, as the document lists them.
func fields(parts ...any) []byte {
	var b []byte
	for _, p := range parts {
		switch x := p.(type) {
		case int:
			b = append(b, byte(x))
		case string:
			b = append(b, x...)
		case []byte:
			b = append(b, x...)
		}
	}
	return b
}

func TestBytesThatAreNoEntry(t *testing.T) {
	s := fields(7, 0, 0, 0, 3)
	none := make([]byte, 6)          // of a live one: neither keepers nor an age
	one := fields(1, 0, 0, 0, 0, 0)  // of a certificate
	rest := make([]byte, 300)        // whatever comes behind
	alive := fields(s, s, none)      // behind a live one's value
	gone := fields(s, s, one)        // behind a certificate's
	later := fields(8, 0, 0, 0, 0)   // a stamp
	earlier := fields(7, 0, 0, 0, 2) // another one
	for i, k := range []struct {
		b    []byte
		want api.Errno
	}{
		{fields(1, "k", 0, 1, "v", alive), api.OK},
		{fields(1, "k", 1, 0, gone), api.OK},
		{fields(16, text(16), 0, 32, text(32), alive), api.OK},
		{fields(0, 0, 1, "v", alive), api.ErrForm},                                // an empty key: that may be taken, but no entry has it
		{fields(17, text(17), 0, 1, "v", alive), api.ErrForm},                     // a key's length above 16
		{fields(17, text(17)), api.ErrForm},                                       // and so ahead of what is missing
		{fields(17), api.ErrForm},                                                 // and so
		{fields(255), api.ErrForm},                                                // and so
		{fields(255, text(255), 0, 0, alive), api.ErrForm},                        // and so
		{fields(16, text(15)), api.ErrShort},                                      // less of a key than its length tells
		{fields(2, "k"), api.ErrShort},                                            // and so
		{fields(1, "k", 2, 1, "v", alive), api.ErrForm},                           // a flag that is neither 0 nor 1
		{fields(1, "k", 255, 1, "v", alive), api.ErrForm},                         // and so
		{fields(1, "k", 2), api.ErrForm},                                          // and so, ahead of what is missing
		{fields(1, "k", 0, 33, text(33), alive), api.ErrForm},                     // a value's length above 32
		{fields(1, "k", 0, 33), api.ErrForm},                                      // and so, ahead of what is missing
		{fields(1, "k", 0, 255, rest), api.ErrForm},                               // and so
		{fields(1, "k", 0, 32, text(31)), api.ErrShort},                           // less of a value
		{fields(1, "k", 1, 1, "v", gone), api.ErrForm},                            // a certificate with a value
		{fields(1, "k", 1, 0, alive), api.ErrForm},                                // one without keepers
		{fields(1, "k", 0, 1, "v", gone), api.ErrForm},                            // a live one with keepers
		{fields(1, "k", 0, 0, s, s, 0, 0, 1, 0, 0, 0), api.ErrForm},               // with an age
		{fields(1, "k", 0, 0, s, later, none), api.ErrForm},                       // with a later Act
		{fields(1, "k", 0, 0, s, earlier, none), api.ErrForm},                     // with an earlier one
		{fields(1, "k", 1, 0, s, later, one), api.OK},                             // a certificate with a later Act
		{fields(1, "k", 1, 0, s, earlier, one), api.ErrForm},                      // with an earlier one
		{fields(1, "k", 1, 0, s, s, 0, 16, 0, 0, 0, 0), api.ErrForm},              // keepers of 4096
		{fields(1, "k", 1, 0, s, s, 255, 15, 0, 0, 0, 0), api.OK},                 // of 4095
		{fields(1, "k", 1, 0, s, s, 255, 255, 0, 0, 0, 0), api.ErrForm},           // of 65535
		{fields(1, "k", 1, 0, s, s, 1, 0, 255, 255, 255, 127), api.OK},            // an age of 2^31 - 1
		{fields(1, "k", 1, 0, s, s, 1, 0, 0, 0, 0, 128), api.ErrForm},             // of 2^31
		{fields(1, "k", 1, 0, s, s, 1, 0, 255, 255, 255, 255), api.ErrForm},       // of 2^32 - 1
		{fields(1, "k", 0, 0, 0, 0, 0, 0, 3, 0, 0, 0, 0, 3, none), api.ErrForm},   // counters of 0
		{fields(1, "k", 0, 0, 7, 0, 0, 0, 12, 7, 0, 0, 0, 12, none), api.ErrForm}, // sites of 12
		{fields(1, "k", 0, 0, 7, 0, 0, 0, 11, 7, 0, 0, 0, 11, none), api.OK},      // of 11
		{fields(1, "k", 1, 0, 0, 0, 0, 0, 3, s, one), api.ErrForm},                // a Stamp that may not be
		{fields(1, "k", 1, 0, s, 255, 255, 255, 255, 12, one), api.ErrForm},       // an Act that may not be
		// Several errors at once: the first one on the way is told, and what was taken is looked at last.
		{fields(0, 0, 1, "v", s, s, 0), api.ErrShort},            // an empty key, and too few bytes
		{fields(1, "k", 1, 1, "v", s, s, 0), api.ErrShort},       // a certificate with a value, and too few
		{fields(17, text(17), 2, 33), api.ErrForm},               // all lengths too great
		{fields(0, 2, 33), api.ErrForm},                          // a flag behind an empty key
		{fields(0, 0, 1, "v", alive, 0), api.ErrForm},            // an empty key, and one byte more
		{fields(1, "k", 1, 1, "v", gone, 0, 0, 0), api.ErrForm},  // a certificate with a value, and more
		{fields(1, "k", 0, 33, text(31)), api.ErrForm},           // too great a length, and too few
		{fields(1, "k", 0, 1, "v", 0, 0, 0, 0, 3), api.ErrShort}, // a Stamp that may not be, and no Act
	} {
		what := fmt.Sprint(i)
		if _, code := plainDecode(k.b); code != k.want {
			t.Errorf("%s: the tests' own decoder: %d, want %d", what, code, k.want)
		}
		if k.want == api.OK {
			decodes(t, what, k.b)
			continue
		}
		isRefused(t, what, k.b, k.want)
	}
}

// Each byte, turned to each other one: an error, or another entry.
func TestEachByteTurned(t *testing.T) {
	for i, e := range some() {
		b := plainBytes(e)
		for at := range b {
			was := b[at]
			for turn := 1; turn < 256; turn++ {
				b[at] = was ^ byte(turn)
				decodes(t, fmt.Sprint(i, ", byte ", at), b)
				if got, _ := entry.Decode(b); got == e {
					t.Errorf("%d: other bytes are its: %v", i, b)
				}
			}
			b[at] = was
		}
	}
}

func TestAnyBytes(t *testing.T) {
	d := rand.New(rand.NewSource(4))
	for range 20000 {
		b := make([]byte, d.Intn(90))
		d.Read(b)
		if len(b) > 0 && d.Intn(2) == 0 {
			b[0] %= 17
		}
		decodes(t, "drawn", b)
	}
}

func TestAnyBytesNearEntries(t *testing.T) {
	d := rand.New(rand.NewSource(5))
	decoded := 0
	for range 60000 {
		b := plainBytes(drawEntry(d))
		for range d.Intn(3) {
			at := d.Intn(len(b))
			switch d.Intn(4) {
			case 0:
				b[at] = pick[byte](d, 0, 1, 2, 11, 12, 16, 17, 32, 33, 127, 128, 255)
			case 1:
				b[at] ^= 1 << d.Intn(8)
			case 2:
				b = slices.Delete(b, at, at+1)
			case 3:
				b = slices.Insert(b, at, byte(d.Intn(256)))
			}
		}
		decodes(t, "drawn", b)
		if _, code := entry.Decode(b); code == api.OK {
			decoded++
		}
	}
	if decoded < 10000 {
		t.Error("only so many were entries: ", decoded)
	}
}

func FuzzDecode(f *testing.F) {
	for _, e := range some() {
		f.Add(plainBytes(e))
	}
	f.Fuzz(func(t *testing.T, b []byte) {
		decodes(t, "any bytes", b)
		if e, code := entry.Decode(b); code == api.OK {
			again, code := entry.Encode(e)
			if code != api.OK || !bytes.Equal(again, b) {
				t.Errorf("%v: the bytes of %v, error %d", b, again, code)
			}
		}
	})
}

// P5.4: Lay.

func TestLay(t *testing.T) {
	for i, e := range some() {
		want, _ := entry.Encode(e)
		var w octets.Writer
		entry.Lay(&w, e)
		if w.Err() != api.OK || !bytes.Equal(w.Bytes(), want) || !bytes.Equal(want, plainBytes(e)) {
			t.Errorf("%d: %v, error %d; want %v", i, w.Bytes(), w.Err(), want)
		}
	}
}

func TestLayBehindAndAhead(t *testing.T) {
	var w octets.Writer
	w.Number(258, 2)
	want := []byte{2, 1}
	for _, e := range some() {
		entry.Lay(&w, e)
		w.Text("ab")
		want = append(append(want, plainBytes(e)...), 2, 'a', 'b')
	}
	if w.Err() != api.OK || !bytes.Equal(w.Bytes(), want) {
		t.Errorf("%v, error %d; want %v", w.Bytes(), w.Err(), want)
	}
}

func TestLayOfAWriterWithAnError(t *testing.T) {
	for _, e := range some() {
		var w octets.Writer
		w.Number(7, 1).Number(7, 0).Number(8, 1)
		entry.Lay(&w, e)
		if w.Err() != api.ErrArg || !bytes.Equal(w.Bytes(), []byte{7}) {
			t.Errorf("%v, error %d", w.Bytes(), w.Err())
		}
	}
}

// Of such as may not be nothing is promised, but that the call ends.
func TestLayOfWhatMayNotBe(t *testing.T) {
	d := rand.New(rand.NewSource(6))
	for range 20000 {
		var w octets.Writer
		entry.Lay(&w, drawAny(d))
	}
}

// P5.4: Take.

func TestTakeOneBehindTheOther(t *testing.T) {
	b := []byte{2, 1}
	for _, e := range some() {
		b = append(append(b, plainBytes(e)...), 2, 'a', 'b')
	}
	r := octets.Read(b)
	if n := r.Number(2); n != 258 {
		t.Error(n)
	}
	for i, e := range some() {
		isIt(t, fmt.Sprint(i), entry.Take(r), r.Err(), e)
		if s := r.Text(16); s != "ab" {
			t.Errorf("%d: behind it: %q", i, s)
		}
	}
	if r.Done() != api.OK {
		t.Errorf("error %d, %d left", r.Err(), r.Left())
	}
}

func TestTakeLeavesWhatIsBehind(t *testing.T) {
	for i, e := range some() {
		for more := range 30 {
			r := octets.Read(append(plainBytes(e), make([]byte, more)...))
			isIt(t, fmt.Sprint(i), entry.Take(r), r.Err(), e)
			if r.Left() != more {
				t.Errorf("%d: %d left, want %d", i, r.Left(), more)
			}
		}
	}
}

func TestTakeOfAReaderWithAnError(t *testing.T) {
	for i, e := range some() {
		for _, code := range []api.Errno{api.ErrArg, api.ErrShort, api.ErrForm, api.ErrSum, api.ErrThere, -5} {
			b := plainBytes(e)
			r := octets.Read(b)
			r.Fail(code)
			isNone(t, fmt.Sprint(i), entry.Take(r), r.Err(), code)
			if r.Left() != len(b) {
				t.Errorf("%d: %d left, want %d", i, r.Left(), len(b))
			}
		}
	}
}

// Behind a first one that is none nothing more is taken.
func TestTakeBehindWhatMayNotBe(t *testing.T) {
	bad := plainBytes(live("", "v", at(7, 3)))
	for i, e := range some() {
		r := octets.Read(append(bad, plainBytes(e)...))
		isNone(t, fmt.Sprint(i, ", the first"), entry.Take(r), r.Err(), api.ErrForm)
		isNone(t, fmt.Sprint(i, ", the second"), entry.Take(r), r.Err(), api.ErrForm)
		if r.Number(1) != 0 || r.Done() != api.ErrForm {
			t.Errorf("%d: something is taken behind it", i)
		}
	}
}

// P5.5: an entry is decoded as it was, and no other bytes are its.

func TestEntriesAreDecodedAsTheyWere(t *testing.T) {
	d := rand.New(rand.NewSource(7))
	has := map[string]api.Entry{}
	for range 40000 {
		e := drawEntry(d)
		b, code := entry.Encode(e)
		if code != api.OK || !bytes.Equal(b, plainBytes(e)) {
			t.Fatalf("of %v: %v, error %d", e, b, code)
		}
		got, code := entry.Decode(b)
		isIt(t, "decoded", got, code, e)
		if other, ok := has[string(b)]; ok && other != e {
			t.Fatalf("%v and %v have the same bytes", e, other)
		}
		has[string(b)] = e
	}
}

func TestAllKeysOfAByteAndAllKeepers(t *testing.T) {
	for n := 1; n <= 4095; n++ {
		e := dead(string([]byte{byte(n)}), at(n, n%12), at(n, n%12), n, n)
		b, code := entry.Encode(e)
		if code != api.OK {
			t.Fatal(n, code)
		}
		got, code := entry.Decode(b)
		isIt(t, fmt.Sprint(n), got, code, e)
	}
}

func TestWhatIsDecodedHasJustTheseBytes(t *testing.T) {
	d := rand.New(rand.NewSource(8))
	for range 60000 {
		b := plainBytes(drawEntry(d))
		b[d.Intn(len(b))] ^= 1 << d.Intn(8)
		e, code := entry.Decode(b)
		if code != api.OK {
			continue
		}
		if again, code := entry.Encode(e); code != api.OK || !bytes.Equal(again, b) {
			t.Fatalf("%v: the bytes of %v are %v, error %d", b, e, again, code)
		}
	}
}

// P2, K5: what is handed in, and what is answered.

func TestBytesAreNeitherChangedNorKept(t *testing.T) {
	for i, e := range some() {
		room := append(plainBytes(e), 1, 2, 3) // there is room behind: nothing may be written there, either
		before := bytes.Clone(room)
		b := room[:len(room)-3]
		got, code := entry.Decode(b)
		r := octets.Read(b)
		taken := entry.Take(r)
		if !bytes.Equal(room, before) {
			t.Fatalf("%d: what was handed in is changed: %v", i, room)
		}
		clear(room)
		isIt(t, fmt.Sprint(i, ", decoded"), got, code, e)
		isIt(t, fmt.Sprint(i, ", taken"), taken, r.Err(), e)
	}
}

func TestAnswersShareNothing(t *testing.T) {
	for i, e := range some() {
		first, _ := entry.Encode(e)
		second, _ := entry.Encode(e)
		clear(first[:cap(first)])
		if !bytes.Equal(second, plainBytes(e)) {
			t.Errorf("%d: two answers share memory", i)
		}
		var w octets.Writer
		entry.Lay(&w, e)
		put := w.Bytes()
		clear(put)
		third, _ := entry.Encode(e)
		if !bytes.Equal(third, plainBytes(e)) || !bytes.Equal(w.Bytes(), plainBytes(e)) {
			t.Errorf("%d: an answer shares memory with what was put", i)
		}
	}
}

// P2, K6: answers hang on nothing but what is handed in.
func TestTheSameAnswersToTheSame(t *testing.T) {
	d := rand.New(rand.NewSource(9))
	answers := func(a, b api.Entry) string {
		put, code1 := entry.Put(a.Key, a.Value, a.Stamp)
		deleted, code2 := entry.Delete(a.Key, a.Stamp, b.Keepers)
		woken, code3 := entry.Wake(a, b.Act)
		x, code4 := entry.Encode(a)
		return fmt.Sprint(entry.Check(a), entry.Newer(a, b), entry.Alike(a, b), entry.Mark(a), put, code1, deleted, code2,
			woken, code3, entry.Keepers(a.Age, b.Keepers, a.Keepers), entry.Duty(a, b.Age), x, code4)
	}
	var l [][2]api.Entry
	var first []string
	for range 3000 {
		l = append(l, [2]api.Entry{drawAny(d), drawAny(d)})
	}
	for _, p := range l {
		first = append(first, answers(p[0], p[1]))
	}
	for i, p := range slices.Backward(l) {
		if got := answers(p[0], p[1]); got != first[i] {
			t.Fatalf("%v: first %s, then %s", p, first[i], got)
		}
	}
}
