package sums_test

import (
	"encoding/binary"
	"fmt"
	"hash/fnv"
	"math"
	"math/big"
	"math/rand"
	"slices"
	"strings"
	"sync"
	"sync/atomic"
	"testing"

	"quidnunc/api"
	"quidnunc/entry"
	"quidnunc/sums"
)

const (
	greatest = 1<<32 - 1 // counter
	oldest   = 1<<31 - 1 // age
)

// at gives a stamp, that may be or not.
func at(counter, site int) api.Stamp { return api.Stamp{Counter: counter, Site: site} }

// live gives a live entry, that may be if these may be.
func live(key, value string, s api.Stamp) api.Entry {
	return api.Entry{Key: key, Value: value, Stamp: s, Act: s}
}

// dead gives a certificate, that may be if these may be.
func dead(key string, s, act api.Stamp, keepers, age int) api.Entry {
	return api.Entry{Key: key, Dead: true, Stamp: s, Act: act, Keepers: keepers, Age: age}
}

// text gives a text of so many bytes.
func text(n int) string { return strings.Repeat("x", n) }

// Four that may be, and come again and again.
var (
	first  = live("k", "v", at(1, 2))
	second = dead("k", at(3, 0), at(3, 0), 5, 0)
	third  = live(text(16), text(32), at(greatest, 11))
	fourth = dead("q", at(258, 1), at(300, 0), 4095, oldest)
)

// plainNumber is what the document says of an entry's number.
func plainNumber(e api.Entry) uint64 {
	if entry.Check(e) != api.OK {
		return 0
	}
	b := append([]byte{byte(len(e.Key))}, e.Key...)
	flag := byte(0)
	if e.Dead {
		flag = 1
	}
	b = append(b, flag, byte(len(e.Value)))
	b = append(b, e.Value...)
	b = binary.LittleEndian.AppendUint32(b, uint32(e.Stamp.Counter))
	b = append(b, byte(e.Stamp.Site))
	b = binary.LittleEndian.AppendUint32(b, uint32(e.Act.Counter))
	b = append(b, byte(e.Act.Site))
	h := fnv.New64a()
	h.Write(b)
	return h.Sum64()
}

// plain is a sum of the tests' own, that counts how often each entry is there, also below 0.
type plain map[api.Entry]int64

// whole gives the sum of all numbers, that doesn't go round.
func (p plain) whole() *big.Int {
	sum := new(big.Int)
	for e, n := range p {
		number := new(big.Int).SetUint64(plainNumber(e))
		sum.Add(sum, number.Mul(number, big.NewInt(n)))
	}
	return sum
}

// sum gives it modulo 2^64.
func (p plain) sum() uint64 {
	around := new(big.Int).Lsh(big.NewInt(1), 64)
	return new(big.Int).Mod(p.whole(), around).Uint64() // never below 0
}

// of gives that of some entries.
func of(l ...api.Entry) plain {
	p := plain{}
	for _, e := range l {
		p[e]++
	}
	return p
}

// some gives entries that may be, of all kinds; no two of them are unlike in Keepers and Age alone.
func some() []api.Entry {
	return []api.Entry{
		first, second, third, fourth,
		live("k", "", at(1, 0)),
		live("k", "", at(3, 0)), // as second, but live
		live("k", "v", at(258, 1)),
		live(text(16), "", at(1, 11)),
		live("\x00", "\x00\x00", at(1<<31, 7)),
		live("\xff\xfe\x80", "\x00\xff", at(0x04030201, 5)),
		live("grüße", "ünï", at(65536, 10)),
		dead("k", at(258, 1), at(300, 0), 1, 0),
		dead("k", at(258, 1), at(258, 2), 3073, 1),
		dead(text(16), at(greatest, 0), at(greatest, 11), 2048, 256),
		dead("\x00", at(1, 0), at(greatest, 11), 256, 0x04030201),
		dead("\xff", at(1<<31, 3), at(1<<31, 3), 255, 65536),
	}
}

// noStamps are such that may not be.
var noStamps = []api.Stamp{
	{}, at(0, 3), at(-1, 3), at(1<<32, 3), at(1<<32+7, 3), at(math.MaxInt, 3), at(math.MinInt, 3),
	at(7, -1), at(7, 12), at(7, 255), at(7, 256), at(7, 263), at(7, 1<<32), at(7, math.MaxInt), at(7, math.MinInt),
}

// with gives an entry that was changed.
func with(e api.Entry, change func(e *api.Entry)) api.Entry {
	change(&e)
	return e
}

// none gives entries that may not be, each for one thing alone.
func none() []api.Entry {
	l := []api.Entry{{}, {Key: "k"}, {Key: "k", Dead: true}}
	for _, e := range []api.Entry{first, second, third, fourth} {
		for _, n := range []int{0, 17, 255, 256, 257, 1 << 20} {
			l = append(l, with(e, func(e *api.Entry) { e.Key = text(n) }))
		}
		for _, n := range []int{33, 255, 256, 257, 288, 1 << 20} {
			l = append(l, with(e, func(e *api.Entry) { e.Value = text(n) }))
		}
		for _, s := range noStamps {
			l = append(l,
				with(e, func(e *api.Entry) { e.Stamp = s }),
				with(e, func(e *api.Entry) { e.Act = s }),
				with(e, func(e *api.Entry) { e.Stamp, e.Act = s, s }))
		}
		for _, n := range []int{-1, -2, -4095, -65535, 4096, 4097, 65535, 65536, 65537, 1<<32 + 1, math.MaxInt, math.MinInt} {
			l = append(l, with(e, func(e *api.Entry) { e.Keepers = n }))
		}
		for _, n := range []int{-1, -2, -1 << 31, 1 << 31, 1<<31 + 1, 1 << 32, 1<<32 + 1, math.MaxInt, math.MinInt} {
			l = append(l, with(e, func(e *api.Entry) { e.Age = n }))
		}
	}
	return append(l,
		with(first, func(e *api.Entry) { e.Dead = true }),
		with(first, func(e *api.Entry) { e.Act.Counter = 2 }),
		with(first, func(e *api.Entry) { e.Act.Site = 3 }),
		with(first, func(e *api.Entry) { e.Keepers = 1 }),
		with(first, func(e *api.Entry) { e.Age = 1 }),
		with(second, func(e *api.Entry) { e.Dead = false }),
		with(second, func(e *api.Entry) { e.Value = "v" }),
		with(second, func(e *api.Entry) { e.Value = "\x00" }),
		with(second, func(e *api.Entry) { e.Keepers = 0 }),
		with(fourth, func(e *api.Entry) { e.Act = at(258, 0) }), // earlier than its Stamp
		with(fourth, func(e *api.Entry) { e.Act = at(257, 11) }))
}

// drawText draws a text of so many bytes.
func drawText(d *rand.Rand, n int) string {
	b := make([]byte, n)
	d.Read(b)
	return string(b)
}

// drawEntry draws one that may be.
func drawEntry(d *rand.Rand) api.Entry {
	key := drawText(d, 1+d.Intn(16))
	s := at(1+d.Intn(greatest>>d.Intn(32)), d.Intn(12))
	if d.Intn(2) == 0 {
		return live(key, drawText(d, d.Intn(33)), s)
	}
	act := s
	if d.Intn(2) == 0 {
		act = at(s.Counter+d.Intn(greatest-s.Counter+1), 11)
	}
	return dead(key, s, act, 1+d.Intn(4095), d.Intn(oldest)>>d.Intn(31))
}

// drawn draws so many that may be.
func drawn(d *rand.Rand, n int) []api.Entry {
	l := make([]api.Entry, n)
	for i := range l {
		l[i] = drawEntry(d)
	}
	return l
}

// pick gives one of some that is drawn.
func pick[T any](d *rand.Rand, l []T) T { return l[d.Intn(len(l))] }

// mixed gives the same in an order that is drawn.
func mixed[T any](d *rand.Rand, l []T) []T {
	l = slices.Clone(l)
	d.Shuffle(len(l), func(i, j int) { l[i], l[j] = l[j], l[i] })
	return l
}

// short tells of an entry, without the whole of a long text.
func short(e api.Entry) string {
	s := fmt.Sprintf("%#v", e)
	if len(s) > 300 {
		return fmt.Sprint(s[:150], " .. ", s[len(s)-130:])
	}
	return s
}

// is fails the test where a sum, or a number, isn't what it should be.
func is(t *testing.T, what string, got, want uint64) {
	t.Helper()
	if got != want {
		t.Fatalf("%s: %016X, want %016X", what, got, want)
	}
}

// adds, drops and turns go by a call of a Sum, and fail the test where it answers another sum than there should be, or
// than there is then.

func adds(t *testing.T, what string, s *sums.Sum, e api.Entry, want uint64) {
	t.Helper()
	is(t, what+": Add", s.Add(e), want)
	is(t, what+": Value behind Add", s.Value(), want)
}

func drops(t *testing.T, what string, s *sums.Sum, e api.Entry, want uint64) {
	t.Helper()
	is(t, what+": Drop", s.Drop(e), want)
	is(t, what+": Value behind Drop", s.Value(), want)
}

func turns(t *testing.T, what string, s *sums.Sum, was, now api.Entry, want uint64) {
	t.Helper()
	is(t, what+": Turn", s.Turn(was, now), want)
	is(t, what+": Value behind Turn", s.Value(), want)
}

// has gives a Sum to which entries came.
func has(t *testing.T, l ...api.Entry) *sums.Sum {
	t.Helper()
	s := new(sums.Sum)
	for _, e := range l {
		s.Add(e)
	}
	is(t, "all that came", s.Value(), of(l...).sum())
	return s
}

// P9.1: Hash.

// Reckoned elsewhere, from the bytes as the document tells them.
func TestKnownNumbers(t *testing.T) {
	for _, k := range []struct {
		e    api.Entry
		want uint64
	}{
		{live("k", "v", at(1, 2)), 0x70AC60B44AE50382},
		{live("k", "", at(1, 0)), 0xAF001F122A826C2F},
		{live(text(16), text(32), at(greatest, 11)), 0x1CFFFB8BD2759A5D},
		{live("k", "v", at(258, 1)), 0x4CFFFD04671EBFD4},
		{live("\xff\xfe\x80", "\x00\xff", at(0x04030201, 5)), 0x925E52E1E8752BF4},
		{live("k", "", at(3, 0)), 0xC6EC9AC43683DBFB},
		{dead("k", at(3, 0), at(3, 0), 5, 0), 0x1C511F7FDCF4BCA2},
		{dead("k", at(3, 0), at(3, 0), 4095, oldest), 0x1C511F7FDCF4BCA2},
		{dead("k", at(258, 1), at(300, 0), 1, 0), 0x5021F9330EFFCCA5},
		{dead(text(16), at(greatest, 0), at(greatest, 11), 2048, 256), 0x689F6E1ECB049273},
	} {
		is(t, "Hash of "+short(k.e), sums.Hash(k.e), k.want)
		is(t, "the tests' own number of "+short(k.e), plainNumber(k.e), k.want)
	}
}

// The bytes of layer 5, one by one, but for the last six.
func TestTheNumberIsThatOfTheBytes(t *testing.T) {
	for _, e := range append(some(), drawn(rand.New(rand.NewSource(1)), 3000)...) {
		b, code := entry.Encode(e)
		if code != api.OK {
			t.Fatal(short(e), " may not be: ", code)
		}
		n := uint64(14695981039346656037)
		for _, c := range b[:len(b)-6] {
			n ^= uint64(c)
			n *= 1099511628211
		}
		is(t, "Hash of "+short(e), sums.Hash(e), n)
		is(t, "the tests' own number of "+short(e), plainNumber(e), n)
	}
}

func TestTextsOfAllLengths(t *testing.T) {
	seen := map[uint64]bool{}
	for key := 1; key <= 16; key++ {
		for value := 0; value <= 32; value++ {
			e := live(text(key), text(value), at(7, 3))
			n := sums.Hash(e)
			is(t, short(e), n, plainNumber(e))
			if seen[n] || n == 0 {
				t.Errorf("%s has the number of another one: %016X", short(e), n)
			}
			seen[n] = true
		}
	}
}

func TestKeepersDoNotTell(t *testing.T) {
	want := uint64(0x1C511F7FDCF4BCA2)
	for keepers := 1; keepers <= 4095; keepers++ {
		for _, age := range []int{0, 1, oldest} {
			is(t, fmt.Sprint("keepers ", keepers, ", age ", age), sums.Hash(dead("k", at(3, 0), at(3, 0), keepers, age)), want)
		}
	}
}

func TestTheAgeDoesNotTell(t *testing.T) {
	woken := dead("k", at(258, 1), at(300, 0), 1, 0)
	for _, age := range []int{0, 1, 2, 9, 255, 256, 257, 65535, 65536, 1 << 24, 1 << 30, oldest - 1, oldest} {
		is(t, fmt.Sprint("age ", age), sums.Hash(with(second, func(e *api.Entry) { e.Age = age })), 0x1C511F7FDCF4BCA2)
		is(t, fmt.Sprint("woken, age ", age), sums.Hash(with(woken, func(e *api.Entry) { e.Age = age })), 0x5021F9330EFFCCA5)
	}
}

func TestOlderOnesOfOtherKeepers(t *testing.T) {
	d := rand.New(rand.NewSource(2))
	for range 2000 {
		e := drawEntry(d)
		if !e.Dead {
			continue
		}
		other := with(e, func(e *api.Entry) { e.Keepers, e.Age = 1+d.Intn(4095), d.Intn(oldest) })
		is(t, short(other), sums.Hash(other), sums.Hash(e))
	}
}

// alterations gives an entry with each part that tells altered alone, to all that it may be.
func alterations(e api.Entry) []api.Entry {
	var l []api.Entry
	put := func(change func(e *api.Entry)) {
		if other := with(e, change); other != e && entry.Check(other) == api.OK {
			l = append(l, other)
		}
	}
	altered := func(s string, i int, by byte) string {
		b := []byte(s)
		b[i] ^= by
		return string(b)
	}
	for bit := range 8 {
		for i := range e.Key {
			put(func(e *api.Entry) { e.Key = altered(e.Key, i, 1<<bit) })
		}
		for i := range e.Value {
			put(func(e *api.Entry) { e.Value = altered(e.Value, i, 1<<bit) })
		}
	}
	for bit := range 32 {
		put(func(e *api.Entry) { e.Stamp.Counter ^= 1 << bit })
		put(func(e *api.Entry) { e.Act.Counter ^= 1 << bit })
		put(func(e *api.Entry) { e.Stamp.Counter ^= 1 << bit; e.Act = e.Stamp })
	}
	for site := range 12 {
		put(func(e *api.Entry) { e.Stamp.Site = site })
		put(func(e *api.Entry) { e.Act.Site = site })
		put(func(e *api.Entry) { e.Stamp.Site = site; e.Act = e.Stamp })
	}
	put(func(e *api.Entry) { e.Key += "\x00" })
	put(func(e *api.Entry) { e.Key = e.Key[1:] })
	put(func(e *api.Entry) { e.Value += "\x00" })
	put(func(e *api.Entry) { e.Value = "" })
	return l
}

// Unlike entries may have one sum: these haven't.
func TestAllOtherPartsTell(t *testing.T) {
	for _, e := range some() {
		seen := map[uint64]api.Entry{sums.Hash(e): e}
		for _, other := range alterations(e) {
			n := sums.Hash(other)
			is(t, short(other), n, plainNumber(other))
			if same, there := seen[n]; there && same != other {
				t.Errorf("%s and %s: both %016X", short(same), short(other), n)
			}
			seen[n] = other
		}
		if len(seen) < 50 {
			t.Errorf("%s: only %d alterations", short(e), len(seen))
		}
	}
}

func TestUnlikeOnesOfTheSameTextsAndStamps(t *testing.T) {
	s, act := at(3, 1), at(4, 2)
	for i, k := range [][2]api.Entry{
		{live("k", "", s), dead("k", s, s, 1, 0)},                      // live, or dead
		{live("ab", "c", s), live("a", "bc", s)},                       // where one text ends
		{live("k\x00", "", s), live("k", "\x00", s)},                   // and the other one begins
		{live("a", "b", s), live("b", "a", s)},                         // the texts, the other way
		{live("ab", "", s), live("ba", "", s)},                         // the bytes, the other way
		{dead("k", s, s, 1, 0), dead("k", s, act, 1, 0)},               // woken
		{dead("k", s, act, 1, 0), dead("k", act, act, 1, 0)},           // one Act
		{dead("k", at(2, 1), act, 1, 0), dead("k", s, act, 1, 0)},      // and one more
		{live("k", "v", at(1, 2)), live("k", "v", at(2, 1))},           // a stamp's parts, the other way
		{live("k", "v", at(256, 1)), live("k", "v", at(1, 1))},         // a counter's bytes
		{live("k", "v", at(1<<24, 0)), live("k", "v", at(1, 0))},       // all of them
		{dead("k", s, at(3, 2), 1, 0), dead("k", s, at(3, 1), 1, 0)},   // the Act's site alone
		{dead("k", s, at(259, 1), 1, 0), dead("k", s, at(3, 1), 1, 0)}, // the Act's counter alone
	} {
		for _, e := range k {
			is(t, short(e), sums.Hash(e), plainNumber(e))
		}
		if sums.Hash(k[0]) == sums.Hash(k[1]) {
			t.Errorf("%d: %s and %s: both %016X", i, short(k[0]), short(k[1]), sums.Hash(k[0]))
		}
	}
}

func TestEntriesThatMayNotBe(t *testing.T) {
	for _, e := range none() {
		if entry.Check(e) == api.OK {
			t.Fatal(short(e), " may be")
		}
		is(t, "Hash of "+short(e), sums.Hash(e), 0)
		is(t, "Of "+short(e), sums.Of(e), 0)
		is(t, "of it, twice", sums.Of(e, e), 0)
		is(t, "of it behind another one", sums.Of(first, e), sums.Hash(first))
		is(t, "of it ahead of another one", sums.Of(e, first), sums.Hash(first))
		is(t, "of it among others", sums.Of(first, e, second, e, third), of(first, second, third).sum())
	}
}

// That only Keepers, or Age, may not be is told, too, though they don't tell else.
func TestKeepersAndAgesThatMayNotBe(t *testing.T) {
	for _, n := range []int{0, -1, 4096, 65536 + 5, 1<<32 + 5, math.MinInt + 5} {
		is(t, fmt.Sprint("keepers ", n), sums.Hash(with(second, func(e *api.Entry) { e.Keepers = n })), 0)
	}
	for _, n := range []int{-1, 1 << 31, 1<<32 + 5, 1 << 32, math.MinInt} {
		is(t, fmt.Sprint("age ", n), sums.Hash(with(second, func(e *api.Entry) { e.Age = n })), 0)
	}
	for _, n := range []int{1, -1, 4095, math.MaxInt} {
		is(t, fmt.Sprint("a live one's keepers ", n), sums.Hash(with(first, func(e *api.Entry) { e.Keepers = n })), 0)
		is(t, fmt.Sprint("a live one's age ", n), sums.Hash(with(first, func(e *api.Entry) { e.Age = n })), 0)
	}
}

func TestAllOfThemMayNotBe(t *testing.T) {
	l := none()
	is(t, "of all of them", sums.Of(l...), 0)
	is(t, "of all of them and one", sums.Of(append(l, fourth)...), sums.Hash(fourth))
}

// P9.1: Of.

func TestOfNone(t *testing.T) {
	is(t, "of none", sums.Of(), 0)
	is(t, "of nil", sums.Of(nil...), 0)
	is(t, "of an empty list", sums.Of([]api.Entry{}...), 0)
}

func TestOfOne(t *testing.T) {
	for _, e := range some() {
		is(t, "of one", sums.Of(e), plainNumber(e))
		is(t, "of one in a list", sums.Of([]api.Entry{e}...), sums.Hash(e))
	}
}

func TestOfMany(t *testing.T) {
	l := some()
	is(t, "of two", sums.Of(first, second), 0x70AC60B44AE50382+0x1C511F7FDCF4BCA2)
	for n := range len(l) + 1 {
		is(t, fmt.Sprint("of ", n), sums.Of(l[:n]...), of(l[:n]...).sum())
	}
	d := rand.New(rand.NewSource(3))
	for _, n := range []int{2, 3, 8, 100, 4096, 50000} {
		l := drawn(d, n)
		is(t, fmt.Sprint("of ", n, " that were drawn"), sums.Of(l...), of(l...).sum())
	}
}

func TestOfTheSameAgainAndAgain(t *testing.T) {
	for _, e := range some() {
		var l []api.Entry
		for n := range 70 {
			is(t, fmt.Sprint(n, " times ", short(e)), sums.Of(l...), uint64(n)*plainNumber(e))
			l = append(l, e)
		}
	}
	// Also those that are unlike in what doesn't tell.
	older := with(second, func(e *api.Entry) { e.Age, e.Keepers = 9, 1 })
	is(t, "of one, and it when it is older", sums.Of(second, older), 2*plainNumber(second))
}

func TestOfGoesRound(t *testing.T) {
	around := new(big.Int).Lsh(big.NewInt(1), 64)
	l := some()
	rounds := 0
	for n := range len(l) + 1 {
		p := of(l[:n]...)
		if p.whole().Cmp(around) >= 0 {
			rounds++
		}
		is(t, fmt.Sprint("of ", n), sums.Of(l[:n]...), p.sum())
	}
	if rounds == 0 {
		t.Error("no sum came round")
	}
	// Two of them just do: 9250... is above 2^63.
	e := live("\xff\xfe\x80", "\x00\xff", at(0x04030201, 5))
	is(t, "twice", sums.Of(e, e), 0x24BCA5C3D0EA57E8)
}

func TestOfTwoLists(t *testing.T) {
	d := rand.New(rand.NewSource(4))
	wrong := none()
	for range 300 {
		a, b := drawn(d, d.Intn(20)), drawn(d, d.Intn(20))
		for range d.Intn(4) {
			a, b = append(a, pick(d, some())), append(b, pick(d, some()), pick(d, wrong))
		}
		is(t, "of both", sums.Of(slices.Concat(a, b)...), sums.Of(a...)+sums.Of(b...))
		is(t, "the other way", sums.Of(slices.Concat(b, a)...), sums.Of(a...)+sums.Of(b...))
		is(t, "of one twice", sums.Of(slices.Concat(a, a)...), 2*sums.Of(a...))
		is(t, "of one and none", sums.Of(slices.Concat(a, nil)...), sums.Of(a...))
	}
}

// P9.2: Add, Drop, Turn, Value.

func TestTheZeroSum(t *testing.T) {
	var s sums.Sum
	is(t, "Value", s.Value(), 0)
	is(t, "Value again", s.Value(), 0)
	is(t, "Value of a new one", new(sums.Sum).Value(), 0)
	var within struct {
		name string
		sum  sums.Sum
	}
	is(t, "Value of one in a struct", within.sum.Value(), 0)
	adds(t, "one in a struct", &within.sum, first, plainNumber(first))
	var row [3]sums.Sum
	adds(t, "one in an array", &row[1], second, plainNumber(second))
	is(t, "its neighbours", row[0].Value()+row[2].Value(), 0)
}

func TestExample(t *testing.T) {
	for _, e := range append(some(), none()...) {
		var s sums.Sum
		adds(t, "comes", &s, e, plainNumber(e))
		drops(t, "goes again", &s, e, 0)
	}
}

func TestAdd(t *testing.T) {
	var s sums.Sum
	p := plain{}
	for range 3 {
		for _, e := range some() {
			p[e]++
			adds(t, short(e), &s, e, p.sum())
		}
	}
	adds(t, "one that may not be", &s, api.Entry{}, p.sum())
	is(t, "Value", s.Value(), p.sum())
	is(t, "Of as many", sums.Of(slices.Concat(some(), some(), some())...), p.sum())
}

func TestDrop(t *testing.T) {
	s := has(t, some()...)
	p := of(some()...)
	for _, e := range mixed(rand.New(rand.NewSource(5)), some()) {
		p[e]--
		drops(t, short(e), s, e, p.sum())
	}
	is(t, "all of them went", s.Value(), 0)
}

func TestDropOfWhatNeverCame(t *testing.T) {
	for _, e := range some() {
		var s sums.Sum
		drops(t, "from none", &s, e, -plainNumber(e))
		drops(t, "again", &s, e, -(2 * plainNumber(e)))
		adds(t, "and it comes", &s, e, -plainNumber(e))
		adds(t, "again", &s, e, 0)
	}
	s := has(t, first)
	drops(t, "another one", s, second, plainNumber(first)-plainNumber(second))
	drops(t, "itself", s, first, -plainNumber(second))
	adds(t, "and the other one comes", s, second, 0)
	s = has(t, first)
	drops(t, "it", s, first, 0)
	drops(t, "it, again", s, first, -plainNumber(first))
}

func TestDropOfOneThatIsOlder(t *testing.T) {
	s := has(t, second)
	older := with(second, func(e *api.Entry) { e.Age, e.Keepers = oldest, 4095 })
	drops(t, "what came when it was younger", s, older, 0)
	drops(t, "what is live", s, live("k", "", at(3, 0)), -plainNumber(live("k", "", at(3, 0))))
}

func TestEntriesThatMayNotBeComeAndGo(t *testing.T) {
	s := has(t, first, second)
	want := of(first, second).sum()
	for _, e := range none() {
		adds(t, short(e), s, e, want)
		drops(t, short(e), s, e, want)
		drops(t, short(e)+", again", s, e, want)
		turns(t, short(e)+" to itself", s, e, e, want)
		turns(t, short(e)+" to another one that may not be", s, e, api.Entry{}, want)
		turns(t, "to "+short(e), s, first, e, plainNumber(second))
		turns(t, "from "+short(e), s, e, first, want)
	}
}

func TestTurn(t *testing.T) {
	for _, was := range some() {
		for _, now := range some() {
			s := has(t, was)
			turns(t, "the only one", s, was, now, plainNumber(now))
			turns(t, "and back", s, now, was, plainNumber(was))
			s = has(t, third, was, fourth)
			turns(t, "one of three", s, was, now, of(third, now, fourth).sum())
			var none sums.Sum
			turns(t, "one that never came", &none, was, now, plainNumber(now)-plainNumber(was))
			turns(t, "and back", &none, now, was, 0)
		}
	}
}

func TestTurnToItself(t *testing.T) {
	for _, e := range some() {
		s := has(t, e)
		turns(t, "the only one", s, e, e, plainNumber(e))
		var none sums.Sum
		turns(t, "one that never came", &none, e, e, 0)
		if e.Dead {
			older := with(e, func(e *api.Entry) { e.Age, e.Keepers = 77, 78 })
			turns(t, "one that is older", s, e, older, plainNumber(e))
			turns(t, "one that is younger", s, older, e, plainNumber(e))
		}
	}
}

func TestTurnFromAndToWhatMayNotBe(t *testing.T) {
	wrong := live("", "v", at(1, 2))
	for _, e := range some() {
		s := has(t, e)
		turns(t, "to one that may not be", s, e, wrong, 0)
		turns(t, "from one that may not be", s, wrong, e, plainNumber(e))
		turns(t, "from one that may not be, again", s, wrong, e, 2*plainNumber(e))
		var none sums.Sum
		turns(t, "one that never came, to one that may not be", &none, e, wrong, -plainNumber(e))
	}
	var s sums.Sum
	turns(t, "both may not be", &s, wrong, api.Entry{}, 0)
}

// A key's whole life: what is there in the end is all that tells.
func TestAKeyThatIsWrittenAgainAndAgain(t *testing.T) {
	s := has(t, third)
	was := live("k", "0", at(1, 2))
	s.Add(was)
	for i := 2; i < 200; i++ {
		now := live("k", fmt.Sprint(i), at(i, 2))
		if i%3 == 0 {
			now = dead("k", at(i, 2), at(i, 2), 1+i, i)
		}
		turns(t, fmt.Sprint(i), s, was, now, of(third, now).sum())
		was = now
	}
	drops(t, "gone", s, was, plainNumber(third))
}

func TestTheSumGoesRound(t *testing.T) {
	e := live("\xff\xfe\x80", "\x00\xff", at(0x04030201, 5)) // above 2^63
	n := uint64(0x925E52E1E8752BF4)
	var s sums.Sum
	adds(t, "once", &s, e, n)
	adds(t, "twice", &s, e, 0x24BCA5C3D0EA57E8)
	drops(t, "once less", &s, e, n)
	drops(t, "none", &s, e, 0)
	drops(t, "one less than none", &s, e, 0x6DA1AD1E178AD40C)
	drops(t, "two less than none", &s, e, 0xDB435A3C2F15A818)
	turns(t, "up", &s, first, e, 0xDB435A3C2F15A818-0x70AC60B44AE50382+n)
	turns(t, "down", &s, e, first, 0xDB435A3C2F15A818)
	is(t, "Value", s.Value(), 0xDB435A3C2F15A818)
}

func TestWhatComesAndGoesAgainLeavesTheSumAsItWas(t *testing.T) {
	d := rand.New(rand.NewSource(6))
	for range 200 {
		s := has(t, drawn(d, d.Intn(10))...)
		was := s.Value()
		l := append(drawn(d, 1+d.Intn(30)), pick(d, some()), pick(d, none()))
		for _, e := range l {
			s.Add(e)
		}
		for _, e := range mixed(d, l) {
			s.Drop(e)
		}
		is(t, "all came, and went", s.Value(), was)
		for _, e := range mixed(d, l) {
			s.Drop(e)
		}
		for _, e := range mixed(d, l) {
			s.Add(e)
		}
		is(t, "all went, and came", s.Value(), was)
		for i := range l {
			s.Turn(l[i], l[(i+1)%len(l)])
		}
		is(t, "each turned to the next one, the last one to the first", s.Value(), was)
	}
}

// P9.3.

// step is a call of a Sum, and of a plain one.
type step struct {
	what     string
	was, now api.Entry
}

func (k step) do(s *sums.Sum) uint64 {
	switch k.what {
	case "add":
		return s.Add(k.now)
	case "drop":
		return s.Drop(k.was)
	}
	return s.Turn(k.was, k.now)
}

func (k step) count(p plain) {
	if k.what != "add" {
		p[k.was]--
	}
	if k.what != "drop" {
		p[k.now]++
	}
}

// orders goes through all orders of some steps.
func orders(l []step, each func(l []step)) {
	var from func(i int)
	from = func(i int) {
		if i == len(l) {
			each(l)
			return
		}
		for j := i; j < len(l); j++ {
			l[i], l[j] = l[j], l[i]
			from(i + 1)
			l[i], l[j] = l[j], l[i]
		}
	}
	from(0)
}

func TestAllOrders(t *testing.T) {
	l := []step{
		{what: "add", now: first}, {what: "add", now: third}, {what: "drop", was: first}, {what: "turn", was: third, now: fourth},
		{what: "drop", was: second}, {what: "turn", was: fourth, now: live("z", "", at(9, 9))}, {what: "add", now: api.Entry{}},
	}
	want := plainNumber(live("z", "", at(9, 9))) - plainNumber(second)
	orders(l, func(l []step) {
		var s sums.Sum
		p := plain{}
		for _, k := range l {
			k.count(p)
			is(t, k.what, k.do(&s), s.Value())
		}
		is(t, "the document's words", p.sum(), want)
		is(t, "in one of all orders", s.Value(), want)
	})
}

func TestOfInAnyOrder(t *testing.T) {
	d := rand.New(rand.NewSource(7))
	for range 100 {
		l := append(drawn(d, d.Intn(30)), some()...)
		want := of(l...).sum()
		is(t, "as they were drawn", sums.Of(l...), want)
		is(t, "in another order", sums.Of(mixed(d, l)...), want)
		slices.Reverse(l)
		is(t, "the other way", sums.Of(l...), want)
	}
}

func TestAnyCallsInAnyOrder(t *testing.T) {
	d := rand.New(rand.NewSource(8))
	entries := append(some(), none()...)
	for range 60 {
		var l []step
		var s sums.Sum
		p := plain{}
		for range 100 {
			k := step{[]string{"add", "drop", "turn"}[d.Intn(3)], pick(d, entries), pick(d, entries)}
			l = append(l, k)
			k.count(p)
			is(t, k.what, k.do(&s), p.sum())
			is(t, "Value behind "+k.what, s.Value(), p.sum())
		}
		for range 5 {
			var other sums.Sum
			for _, k := range mixed(d, l) {
				k.do(&other)
			}
			is(t, "in another order", other.Value(), s.Value())
		}
	}
}

// What two have, whose entries came on other ways, is told by one sum.
func TestOtherWaysToTheSame(t *testing.T) {
	var byTurns, byDrops sums.Sum
	for _, e := range some() {
		byTurns.Add(with(e, func(e *api.Entry) { e.Key = "old" }))
		byDrops.Add(e)
		byDrops.Add(third)
	}
	for _, e := range some() {
		byDrops.Drop(third)
		byTurns.Turn(with(e, func(e *api.Entry) { e.Key = "old" }), e)
	}
	is(t, "by turns", byTurns.Value(), sums.Of(some()...))
	is(t, "by drops", byDrops.Value(), sums.Of(some()...))
}

// atOnce calls do for each of so many askers, all of them at once.
func atOnce(askers int, do func(i int)) {
	var ready, all sync.WaitGroup
	ready.Add(askers)
	for i := range askers {
		all.Go(func() {
			ready.Done()
			ready.Wait() // else the first ones are through when the last ones begin
			do(i)
		})
	}
	all.Wait()
}

// A sum is atomic: nothing is lost where entries come and go at once, and what Add answers nobody else is told.
func TestAddsAtOnce(t *testing.T) {
	const askers, each = 8, 10000
	var s sums.Sum
	var told [askers][each]uint64
	atOnce(askers, func(i int) {
		for j := range each {
			told[i][j] = s.Add(first)
		}
	})
	is(t, "all of them came", s.Value(), askers*each*plainNumber(first))
	once := map[uint64]bool{}
	for _, l := range told {
		for _, n := range l {
			if once[n] {
				t.Fatalf("%016X was told twice", n)
			}
			once[n] = true
		}
	}
}

func TestAllCallsAtOnce(t *testing.T) {
	const askers, each = 8, 10000
	l := some()[:askers]
	s := has(t, l...)
	want := s.Value()
	atOnce(askers, func(i int) {
		for j := range each {
			other := l[(i+j)%askers]
			s.Add(other)
			s.Turn(l[i], fourth)
			s.Drop(other)
			s.Turn(fourth, l[i])
		}
	})
	is(t, "all of them came and went", s.Value(), want)
}

// Turn takes and gives at once: who looks meets the one or the other.
func TestNobodyMeetsHalfATurn(t *testing.T) {
	s := has(t, first)
	one, other := plainNumber(first), plainNumber(second)
	var done atomic.Bool
	atOnce(4, func(i int) {
		if i == 0 {
			defer done.Store(true)
			for range 20000 {
				s.Turn(first, second)
				s.Turn(second, first)
			}
			return
		}
		for !done.Load() {
			if n := s.Value(); n != one && n != other {
				t.Errorf("half a turn: %016X", n)
				return
			}
		}
	})
	is(t, "behind all turns", s.Value(), one)
}

// P1, P2.

// K5: what is handed in is not changed.
func TestWhatIsHandedInIsNotChanged(t *testing.T) {
	// There is room behind: nothing may be written there, either.
	l := append(some(), none()...)
	before := slices.Clone(l)
	for n := range len(l) + 1 {
		sums.Of(l[:n]...)
		if !slices.Equal(l, before) {
			t.Fatalf("Of of %d changed what was handed in", n)
		}
	}
}

// K5: nor is it kept.
func TestWhatIsHandedInIsNotKept(t *testing.T) {
	l := some()
	want := of(l...).sum()
	is(t, "of all", sums.Of(l...), want)
	l[0] = third
	is(t, "of all, with another one", sums.Of(l...), of(l...).sum())
	l[0] = first
	is(t, "of all, again", sums.Of(l...), want)

	var s sums.Sum
	e, other := first, fourth
	s.Add(e)
	e.Key, e.Value, e.Stamp = "changed", "", at(9, 9)
	is(t, "an entry changed behind Add", s.Value(), plainNumber(first))
	s.Turn(first, other)
	other.Act, other.Dead = at(400, 3), false
	is(t, "an entry changed behind Turn", s.Value(), plainNumber(fourth))
	b := []byte("key")
	cut := live(string(b), "", at(1, 0))
	s.Add(cut)
	clear(b)
	drops(t, "bytes changed, of which a text was cut", &s, live("key", "", at(1, 0)), plainNumber(fourth))
}

// K6: sums have nothing in common, and the same calls have the same answers.
func TestSumsHaveNothingInCommon(t *testing.T) {
	var a, b sums.Sum
	adds(t, "the one", &a, first, plainNumber(first))
	is(t, "the other one", b.Value(), 0)
	drops(t, "the other one", &b, second, -plainNumber(second))
	turns(t, "the one", &a, first, third, plainNumber(third))
	is(t, "the other one", b.Value(), -plainNumber(second))
	sums.Of(first, second)
	sums.Hash(fourth)
	is(t, "the one, behind Of and Hash", a.Value(), plainNumber(third))
	is(t, "a new one", new(sums.Sum).Value(), 0)
}

func TestTheSameAnswersToTheSame(t *testing.T) {
	story := func(seed int64) (answers []uint64) {
		d := rand.New(rand.NewSource(seed))
		var s sums.Sum
		entries := append(drawn(d, 9), pick(d, none()))
		for range 50 {
			a, b := pick(d, entries), pick(d, entries)
			answers = append(answers, sums.Hash(a), sums.Of(a, b), s.Add(a), s.Turn(a, b), s.Drop(pick(d, entries)), s.Value())
		}
		return answers
	}
	var all [][]uint64
	for seed := range 20 {
		all = append(all, story(int64(seed)))
	}
	for seed := 19; seed >= 0; seed-- {
		if !slices.Equal(story(int64(seed)), all[seed]) {
			t.Fatal("seed ", seed)
		}
	}
}

// Value, and what is told to no Sum, changes nothing.
func TestWhatOnlyAsksChangesNothing(t *testing.T) {
	s := has(t, first, fourth)
	for _, e := range append(some(), none()...) {
		sums.Hash(e)
		sums.Of(e, e)
		is(t, "asked", s.Value(), of(first, fourth).sum())
	}
}

// Any fields, such that may be or not.
func FuzzAnyEntry(f *testing.F) {
	for _, e := range append(some(), none()...) {
		if len(e.Key)+len(e.Value) < 1000 {
			f.Add(e.Key, e.Value, e.Dead, e.Stamp.Counter, e.Stamp.Site, e.Act.Counter, e.Act.Site, e.Keepers, e.Age)
		}
	}
	f.Fuzz(func(t *testing.T, key, value string, isDead bool, counter, site, actCounter, actSite, keepers, age int) {
		e := api.Entry{Key: key, Value: value, Dead: isDead, Stamp: at(counter, site), Act: at(actCounter, actSite), Keepers: keepers, Age: age}
		n := plainNumber(e)
		is(t, "Hash", sums.Hash(e), n)
		is(t, "Of", sums.Of(e, first, e), 2*n+plainNumber(first))
		var s sums.Sum
		adds(t, "alone", &s, e, n)
		turns(t, "turned", &s, e, first, plainNumber(first))
		turns(t, "turned back", &s, first, e, n)
		drops(t, "gone", &s, e, 0)
	})
}
