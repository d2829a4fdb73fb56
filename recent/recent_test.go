package recent_test

import (
	"fmt"
	"maps"
	"math"
	"math/rand"
	"slices"
	"strings"
	"testing"

	"quidnunc/api"
	"quidnunc/recent"
)

const greatest = 1<<32 - 1 // counter

// at gives a mark, that may be or not.
func at(key string, counter, site int) api.Mark {
	return api.Mark{Act: api.Stamp{Counter: counter, Site: site}, Key: key}
}

var top = api.Mark{}

// keys are some that begin alike, that have the bytes 0 and 255, and that letters' order, or a text's
// length, would put elsewhere; rising.
var keys = []string{
	"", "\x00", "\x00\x00", "\x00\xff", "10", "9", "B", "Z", "a", "a\x00", "a\x00\x00", "aa", "ab", "ab\x00", "abc",
	"a\xff", "a\xff\xff", "b", "k123456789012345", "z", "zz", "\x7f", "\x80", "é", "\xf8", "\xff", "\xff\x00", "\xff\xff",
}

// tooLong are keys that no entry has, rising.
var tooLong = []string{
	"a" + strings.Repeat("\x00", 16), "k1234567890123456", strings.Repeat("x", 4999) + "a", strings.Repeat("x", 5000),
	strings.Repeat("\xff", 17), strings.Repeat("\xff", 300),
}

// counters and sites are such that may be, noCounters and noSites such that may not; all are rising.
var (
	counters   = []int{1, 2, 255, 256, 1<<31 - 1, 1 << 31, greatest - 1, greatest}
	noCounters = []int{math.MinInt, math.MinInt + 1, -greatest, -1 << 32, -2, -1, 0, 1 << 32, 1<<32 + 1, 1 << 62, math.MaxInt - 1, math.MaxInt}
	sites      = []int{0, 1, 2, 5, 10, 11}
	noSites    = []int{math.MinInt, -1 << 32, -12, -1, 12, 13, 255, 256, 1 << 32, math.MaxInt}
)

// numbers are ones to ask for so many by, whatever there is.
var numbers = []int{
	math.MinInt, math.MinInt + 1, -1 << 32, -1 << 31, -2, -1, 0, 1, 2, 3, 7, 1000, 1 << 31, 1 << 32, 1<<32 + 1, 1 << 62,
	math.MaxInt - 1, math.MaxInt,
}

// order tells which of two numbers is greater.
func order(a, b int) int {
	switch {
	case a > b:
		return 1
	case a < b:
		return -1
	}
	return 0
}

// orderOfKeys tells which of two keys is greater, byte by byte.
func orderOfKeys(a, b string) int {
	for i := 0; i < len(a) && i < len(b); i++ {
		if a[i] != b[i] {
			return order(int(a[i]), int(b[i]))
		}
	}
	return order(len(a), len(b))
}

// orderOfMarks tells which of two marks is later: by the counter, then by the site, then by the key.
func orderOfMarks(a, b api.Mark) int {
	if a.Act.Counter != b.Act.Counter {
		return order(a.Act.Counter, b.Act.Counter)
	}
	if a.Act.Site != b.Act.Site {
		return order(a.Act.Site, b.Act.Site)
	}
	return orderOfKeys(a.Key, b.Key)
}

// plain is an index as the document has it: marks in no order, which are held against one another when asked.
type plain map[string]api.Mark

func (p plain) put(m api.Mark) bool {
	_, had := p[m.Key]
	p[m.Key] = m
	return had
}

func (p plain) drop(key string) bool {
	_, had := p[key]
	delete(p, key)
	return had
}

// all gives all marks, the latest first: each time the latest of those that are left.
func (p plain) all() []api.Mark {
	left := maps.Clone(p)
	var l []api.Mark
	for len(left) > 0 {
		first := true
		var latest api.Mark
		for _, m := range left {
			if first || orderOfMarks(m, latest) > 0 {
				first, latest = false, m
			}
		}
		l = append(l, latest)
		delete(left, latest.Key)
	}
	return l
}

// newest gives the n first of a list.
func newest(l []api.Mark, n int) []api.Mark {
	if n < 1 {
		return nil
	}
	return l[:min(n, len(l))]
}

// below gives the n first ones of a list, the latest first, that are earlier than a mark; of the top, of all.
func below(l []api.Mark, m api.Mark, n int) []api.Mark {
	var earlier []api.Mark
	for _, o := range l {
		if m == top || orderOfMarks(o, m) < 0 {
			earlier = append(earlier, o)
		}
	}
	return newest(earlier, n)
}

// short gives a key for a message.
func short(key string) string {
	if len(key) > 20 {
		return fmt.Sprintf("%q.. of %d", key[:20], len(key))
	}
	return fmt.Sprintf("%q", key)
}

// told gives marks for a message.
func told(l ...api.Mark) string {
	s := fmt.Sprint(len(l), " marks")
	for i, m := range l {
		if i == 20 {
			return s + " .."
		}
		s += fmt.Sprint(" ", short(m.Key), " at ", m.Act.Counter, ", ", m.Act.Site)
	}
	return s
}

// is fails the test where a call doesn't tell what it should.
func is(t *testing.T, what string, got, want bool) {
	t.Helper()
	if got != want {
		t.Fatalf("%s: %v, want %v", what, got, want)
	}
}

// sameList fails the test where two lists of marks aren't the same.
func sameList(t *testing.T, what string, got, want []api.Mark) {
	t.Helper()
	if !slices.Equal(got, want) {
		t.Fatalf("%s: %s, want %s", what, told(got...), told(want...))
	}
}

// gives fails the test where a key hasn't the mark that it should.
func gives(t *testing.T, what string, x *recent.Index, p plain, key string) {
	t.Helper()
	m, ok := x.Get(key)
	want, there := p[key]
	if m != want || ok != there {
		t.Fatalf("%s: Get of %s: %s, %v; want %s, %v", what, short(key), told(m), ok, told(want), there)
	}
}

// put and drop do so, and fail the test where it isn't told whether the key had a mark.

func put(t *testing.T, x *recent.Index, p plain, m api.Mark) {
	t.Helper()
	is(t, "Put of "+told(m), x.Put(m), p.put(m))
}

func drop(t *testing.T, x *recent.Index, p plain, key string) {
	t.Helper()
	is(t, "Drop of "+short(key), x.Drop(key), p.drop(key))
}

// same fails the test where an index doesn't tell what it should, of any call that changes nothing.
func same(t *testing.T, what string, x *recent.Index, p plain) {
	t.Helper()
	if x.Len() != len(p) {
		t.Fatalf("%s: %d marks, want %d", what, x.Len(), len(p))
	}
	all := p.all()
	sameList(t, what+": Newest", x.Newest(math.MaxInt), all)
	sameList(t, what+": Newest 2", x.Newest(2), newest(all, 2))
	for _, key := range slices.Concat(keys, tooLong, []string{"never there"}) {
		gives(t, what, x, p, key)
	}
	for _, m := range all {
		gives(t, what, x, p, m.Key)
		sameBelow(t, what, x, all, m)
	}
	sameBelow(t, what, x, all, top)
}

// sameBelow fails the test where some, or all, below a mark aren't what they should be.
func sameBelow(t *testing.T, what string, x *recent.Index, all []api.Mark, m api.Mark) {
	t.Helper()
	for _, n := range []int{0, 1, 3, len(all) + 1} {
		sameList(t, fmt.Sprint(what, ": Below of ", told(m), ", ", n), x.Below(m, n), below(all, m, n))
	}
}

// with gives an index with just these marks, and what it should tell.
func with(t *testing.T, l ...api.Mark) (*recent.Index, plain) {
	t.Helper()
	x, p := recent.New(), plain{}
	for _, m := range l {
		put(t, x, p, m)
	}
	return x, p
}

// row gives marks of so many unlike keys, each later than the one ahead, of which some have one Act, and
// some one Counter.
func row(n int) []api.Mark {
	var l []api.Mark
	for i := range n {
		l = append(l, at(fmt.Sprintf("k%05d", (i*7919+13)%n), 1+i/20, i%20/7))
	}
	slices.SortFunc(l, orderOfMarks)
	return l
}

// mixed gives the same marks in another order.
func mixed(r *rand.Rand, l []api.Mark) []api.Mark {
	l = slices.Clone(l)
	r.Shuffle(len(l), func(i, k int) { l[i], l[k] = l[k], l[i] })
	return l
}

// rising gives marks, each later than the one ahead, whether they may be or not: the zero mark, too.
func rising() []api.Mark {
	var l []api.Mark
	for _, counter := range []int{math.MinInt, -1 << 32, -1, 0, 1, 2, 1 << 31, greatest, 1 << 32, math.MaxInt} {
		for _, site := range []int{math.MinInt, -1, 0, 1, 11, 12, 1 << 32, math.MaxInt} {
			for _, key := range []string{"", "\x00", "Z", "a", "aa", "b", strings.Repeat("b", 17), "\x7f", "\x80", "\xff"} {
				l = append(l, at(key, counter, site))
			}
		}
	}
	return l
}

// anyMark draws one: of few keys and few Acts, so that many are the same, or all but; some may not be.
func anyMark(r *rand.Rand) api.Mark {
	pick := func(l ...[]int) int { all := slices.Concat(l...); return all[r.Intn(len(all))] }
	key := keys[r.Intn(len(keys))]
	switch r.Intn(8) {
	case 0:
		return at(key, pick(counters, noCounters), pick(sites, noSites))
	case 1:
		return at(tooLong[r.Intn(len(tooLong))], pick(counters), pick(sites))
	case 2:
		return at(key, pick(counters), pick(sites))
	}
	return at(key, 1+r.Intn(4), r.Intn(3))
}

// notZero is a mark that is drawn, but not the zero one.
func notZero(r *rand.Rand) api.Mark {
	for {
		if m := anyMark(r); m != top {
			return m
		}
	}
}

// P10.1: Compare.

func TestCompare(t *testing.T) {
	for i, k := range []struct {
		a, b api.Mark
		want int
	}{
		{at("z", 1, 11), at("a", 2, 0), -1}, // the Counter tells, whatever else there is
		{at("a", 2, 0), at("z", 1, 11), 1},
		{at("z", 5, 1), at("a", 5, 2), -1}, // one Counter: the Site tells
		{at("a", 5, 2), at("z", 5, 1), 1},
		{at("a", 5, 2), at("b", 5, 2), -1}, // one Act: the key tells
		{at("b", 5, 2), at("a", 5, 2), 1},
		{at("a", 5, 2), at("aa", 5, 2), -1},
		{at("aa", 5, 2), at("b", 5, 2), -1},
		{at("", 5, 2), at("\x00", 5, 2), -1},
		{at("10", 5, 2), at("9", 5, 2), -1}, // not as numbers
		{at("Z", 5, 2), at("a", 5, 2), -1},  // not as letters
		{at("z", 5, 2), at("é", 5, 2), -1},
		{at("\x7f", 5, 2), at("\x80", 5, 2), -1}, // a byte is none below 0
		{at("\xff", 5, 2), at("a", 5, 2), 1},
		{at("a\x80", 5, 2), at("a\x7f", 5, 2), 1},
		{at("a", 5, 2), at("a", 5, 2), 0},
		{at("", 1, 0), at("", 1, 0), 0},
		{at("a", 10, 0), at("a", 9, 0), 1},
		{at("a", 1, 11), at("a", 1, 2), 1},
		{at("a", greatest, 0), at("a", 1, 0), 1}, // a number of 32 bits is none below 0
		{at("a", greatest, 11), at("a", greatest, 11), 0},
	} {
		if got := recent.Compare(k.a, k.b); got != k.want {
			t.Errorf("case %d: %d, want %d", i, got, k.want)
		}
	}
}

// Any two marks are held against each other, as such that may be: the zero one, too.
func TestCompareAnyTwo(t *testing.T) {
	l := rising()
	for i, a := range l {
		for k, b := range l {
			if got := recent.Compare(a, b); got != order(i, k) {
				t.Fatalf("%s, %s: %d, want %d", told(a), told(b), got, order(i, k))
			}
		}
	}
}

func TestCompareKeys(t *testing.T) {
	for i := range keys {
		for k := range keys {
			if got := recent.Compare(at(keys[i], 7, 3), at(keys[k], 7, 3)); got != order(i, k) {
				t.Fatalf("%s, %s: %d, want %d", short(keys[i]), short(keys[k]), got, order(i, k))
			}
		}
	}
	for one := range 256 {
		for other := range 256 {
			for _, ahead := range []string{"", "k", "é"} {
				a, b := at(ahead+string([]byte{byte(one)}), 1, 1), at(ahead+string([]byte{byte(other)}), 1, 1)
				if got := recent.Compare(a, b); got != order(one, other) {
					t.Fatal(told(a), told(b), got)
				}
			}
		}
	}
}

func TestCompareTooLongKeys(t *testing.T) {
	for i := range tooLong {
		for k := range tooLong {
			if got := recent.Compare(at(tooLong[i], 7, 3), at(tooLong[k], 7, 3)); got != order(i, k) {
				t.Fatalf("%s, %s: %d, want %d", short(tooLong[i]), short(tooLong[k]), got, order(i, k))
			}
		}
	}
}

// The top is ahead of all as a place alone: held against others, the zero mark is what its numbers say.
func TestCompareTheTop(t *testing.T) {
	for m, want := range map[api.Mark]int{
		top: 0, at("a", 0, 0): -1, at("", 0, 1): -1, at("", 1, 0): -1, at("a", 1, 0): -1, at("", 0, -1): 1, at("z", -1, 11): 1,
	} {
		if got := recent.Compare(top, m); got != want {
			t.Errorf("the top, %s: %d, want %d", told(m), got, want)
		}
		if got := recent.Compare(m, top); got != -want {
			t.Errorf("%s, the top: %d, want %d", told(m), got, -want)
		}
	}
}

func TestCompareDrawnOnes(t *testing.T) {
	r := rand.New(rand.NewSource(1))
	for range 20000 {
		a, b := anyMark(r), anyMark(r)
		if got := recent.Compare(a, b); got != orderOfMarks(a, b) {
			t.Fatalf("%s, %s: %d, want %d", told(a), told(b), got, orderOfMarks(a, b))
		}
	}
}

// P10.1: New, Len.

func TestAnIndexWithoutMarks(t *testing.T) {
	x, p := recent.New(), plain{}
	same(t, "new", x, p)
	for _, key := range slices.Concat(keys, tooLong) {
		drop(t, x, p, key)
	}
	for _, n := range numbers {
		for _, m := range rising() {
			sameList(t, "of none, Below", x.Below(m, n), nil)
		}
		sameList(t, "of none, Newest", x.Newest(n), nil)
	}
	same(t, "asked for all", x, p)
}

func TestLen(t *testing.T) {
	x, p := recent.New(), plain{}
	for i, m := range row(500) {
		put(t, x, p, m)
		if x.Len() != i+1 {
			t.Fatal(x.Len(), i+1)
		}
		x.Put(at(m.Key, 9, 9))
		x.Drop("never there")
		if x.Len() != i+1 {
			t.Fatal("put anew: ", x.Len(), i+1)
		}
	}
	for i, m := range row(500) {
		x.Drop(m.Key)
		x.Drop(m.Key)
		if x.Len() != 499-i {
			t.Fatal("dropped: ", x.Len(), 499-i)
		}
	}
}

// P10.1: Put, Get.

func TestPutAndGet(t *testing.T) {
	x, p := recent.New(), plain{}
	for i, key := range keys {
		is(t, "new: "+short(key), x.Put(at(key, 100-i%5, i%3)), false)
		p.put(at(key, 100-i%5, i%3))
		same(t, "put: "+short(key), x, p)
	}
	for i, key := range keys {
		is(t, "there: "+short(key), x.Put(at(key, 98+i%7, i%4)), true)
		p.put(at(key, 98+i%7, i%4))
		same(t, "put anew: "+short(key), x, p)
	}
}

func TestOneMark(t *testing.T) {
	for _, m := range rising() {
		x, p := with(t, m)
		same(t, "only "+told(m), x, p)
		put(t, x, p, m)
		same(t, "twice "+told(m), x, p)
		drop(t, x, p, m.Key)
		same(t, "no more "+told(m), x, p)
	}
}

// A key that is put again has the new mark alone, whether that is later, earlier, or the same.
func TestPutAgain(t *testing.T) {
	l := row(9)
	for i, was := range l {
		for _, act := range []api.Stamp{
			was.Act, {}, {Counter: -1, Site: 5}, {Counter: 1}, {Counter: 1, Site: 1}, {Counter: 1, Site: 2}, {Counter: 2}, {Counter: greatest, Site: 11},
			{Counter: was.Act.Counter, Site: was.Act.Site + 1}, {Counter: was.Act.Counter, Site: was.Act.Site - 1},
			{Counter: was.Act.Counter + 1, Site: was.Act.Site}, {Counter: was.Act.Counter - 1, Site: was.Act.Site},
		} {
			x, p := with(t, l...)
			m := api.Mark{Act: act, Key: was.Key}
			what := fmt.Sprint(i, ": ", told(was), ", then ", told(m))
			is(t, what, x.Put(m), true)
			p.put(m)
			same(t, what, x, p)
			is(t, what+", and back", x.Put(was), true)
			p.put(was)
			same(t, what+", and back", x, p)
		}
	}
}

// One key that comes by all marks there are: nothing is left of those that it had.
func TestOneKeyAllOver(t *testing.T) {
	r := rand.New(rand.NewSource(2))
	x, p := with(t, row(30)...)
	for _, m := range mixed(r, rising()) {
		m.Key = "k00011"
		is(t, told(m), x.Put(m), true)
		p.put(m)
		sameList(t, told(m), x.Newest(99), p.all())
	}
	same(t, "at the end", x, p)
}

// The zero mark may be put, as any other one: a key that has it is there.
func TestTheZeroMarkIsPut(t *testing.T) {
	x, p := recent.New(), plain{}
	is(t, "the first time", x.Put(top), false)
	p.put(top)
	m, ok := x.Get("")
	if m != top || !ok || x.Len() != 1 {
		t.Fatal(told(m), ok, x.Len())
	}
	same(t, "alone", x, p)
	is(t, "once more", x.Put(top), true)
	is(t, "dropped", x.Drop(""), true)
	is(t, "dropped once more", x.Drop(""), false)
	if m, ok = x.Get(""); ok || m != top || x.Len() != 0 {
		t.Fatal(told(m), ok, x.Len())
	}
	for _, other := range []api.Mark{at("a", 0, 0), at("a", 1, 0), at("a", -1, 0), at("\xff", 0, -1), at("a", 0, 1)} {
		x, p = with(t, top, other)
		same(t, "and "+told(other), x, p)
		x, p = with(t, other, top)
		same(t, "behind "+told(other), x, p)
	}
}

// A key that has a zero Act, or the empty key, is there: it isn't one that isn't.
func TestZeroActsAndTheEmptyKey(t *testing.T) {
	x, p := with(t, at("a", 0, 0), at("", 3, 2), at("b", 0, 0))
	same(t, "zero Acts", x, p)
	put(t, x, p, at("a", 0, 0))
	drop(t, x, p, "b")
	same(t, "dropped", x, p)
	drop(t, x, p, "")
	same(t, "the empty key dropped", x, p)
	put(t, x, p, at("", 9, 9))
	same(t, "the empty key put", x, p)
}

// Marks that may not be are put, told and held against others all the same.
func TestMarksThatMayNotBe(t *testing.T) {
	r := rand.New(rand.NewSource(3))
	x, p := recent.New(), plain{}
	n := 0
	for _, counter := range slices.Concat(noCounters, counters) {
		for _, site := range noSites {
			put(t, x, p, at(fmt.Sprint("k", n*31%100), counter, site))
			n++
		}
	}
	for _, key := range tooLong {
		for _, counter := range noCounters {
			put(t, x, p, at(key, counter, 3))
		}
		put(t, x, p, at(key, 5, r.Intn(3)))
	}
	same(t, "all of them", x, p)
	for _, key := range tooLong {
		drop(t, x, p, key)
	}
	same(t, "short ones", x, p)
}

// P10.1: Drop.

func TestDrop(t *testing.T) {
	r := rand.New(rand.NewSource(4))
	for range 20 {
		x, p := recent.New(), plain{}
		for range 60 {
			put(t, x, p, anyMark(r))
		}
		for _, m := range mixed(r, p.all()) {
			is(t, "never there", x.Drop(m.Key+"?"), false)
			is(t, told(m), x.Drop(m.Key), true)
			p.drop(m.Key)
			is(t, told(m)+", once more", x.Drop(m.Key), false)
			same(t, "dropped: "+told(m), x, p)
		}
	}
}

func TestDropThoseAtTheEnds(t *testing.T) {
	for _, n := range []int{1, 2, 3, 20, 500} {
		l := row(n)
		x, p := with(t, l...)
		drop(t, x, p, l[0].Key)
		same(t, "the earliest", x, p)
		drop(t, x, p, l[n-1].Key)
		same(t, "the latest", x, p)
		drop(t, x, p, l[n/2].Key)
		same(t, "one amid them", x, p)
	}
}

func TestDropKeysThatNeverCame(t *testing.T) {
	x, p := with(t, at("a", 2, 0), at("b", 1, 0), at("ab", 1, 1))
	for _, key := range slices.Concat(keys, tooLong) {
		if _, there := p[key]; !there {
			is(t, short(key), x.Drop(key), false)
		}
	}
	same(t, "others dropped", x, p)
}

func TestDropAndPut(t *testing.T) {
	x, p := with(t, row(40)...)
	for i := range 40 {
		key := fmt.Sprintf("k%05d", i)
		drop(t, x, p, key)
		is(t, "come again: "+key, x.Put(at(key, 3-i%5, i)), false)
		p.put(at(key, 3-i%5, i))
		same(t, "come again: "+key, x, p)
	}
}

// P10.2: Newest, Below.

func TestExample(t *testing.T) {
	a, b := at("a", 2, 0), at("b", 1, 0)
	x, _ := with(t, a, b)
	sameList(t, "Newest", x.Newest(9), []api.Mark{a, b})
	sameList(t, "Below", x.Below(a, 9), []api.Mark{b})
}

func TestNewest(t *testing.T) {
	for _, size := range []int{0, 1, 2, 3, 20, 300} {
		x, p := with(t, row(size)...)
		all := p.all()
		for _, n := range slices.Concat(numbers, []int{size - 1, size, size + 1, size / 2, 2 * size}) {
			sameList(t, fmt.Sprint(n, " of ", size), x.Newest(n), newest(all, n))
		}
	}
	x, _ := with(t, row(300)...)
	for n := range 303 {
		if got := len(x.Newest(n)); got != min(n, 300) {
			t.Fatal(n, got)
		}
	}
}

// Of marks with one Act the key tells which is later, of such with one Counter the Site.
func TestNewestOfOneAct(t *testing.T) {
	r := rand.New(rand.NewSource(5))
	var l []api.Mark
	for _, key := range keys {
		l = append(l, at(key, 7, 3))
	}
	x, _ := with(t, mixed(r, l)...)
	slices.Reverse(l)
	sameList(t, "one Act", x.Newest(999), l)
	l = nil
	for site := range 12 {
		l = append(l, at(keys[len(keys)-1-site], 7, site))
	}
	x, _ = with(t, mixed(r, l)...)
	slices.Reverse(l)
	sameList(t, "one Counter", x.Newest(999), l)
}

func TestBelow(t *testing.T) {
	l := row(40)
	x, p := with(t, l...)
	all := p.all()
	for i, m := range all {
		for _, n := range slices.Concat(numbers, []int{39, 40, 41, 39 - i, 40 - i, 41 - i}) {
			sameList(t, fmt.Sprint("below the mark ", i, ": ", n), x.Below(m, n), newest(all[i+1:], n))
		}
	}
	sameList(t, "below the latest", x.Below(all[0], 99), all[1:])
	sameList(t, "below the earliest", x.Below(all[39], 99), nil)
}

// A mark needn't be there to ask what is below it.
func TestBelowMarksThatAreNotThere(t *testing.T) {
	r := rand.New(rand.NewSource(6))
	x, p := recent.New(), plain{}
	l := rising()
	for range 25 {
		put(t, x, p, l[r.Intn(len(l))])
	}
	all := p.all()
	for i, m := range l {
		for _, n := range []int{math.MinInt, -1, 0, 1, 2, 10, len(all), math.MaxInt} {
			sameList(t, fmt.Sprint("mark ", i, ", ", told(m), ": ", n), x.Below(m, n), below(all, m, n))
		}
	}
}

// A mark of a key that is there with another one is a mark that isn't there.
func TestBelowAMarkThatTheKeyHad(t *testing.T) {
	x, p := with(t, at("a", 5, 0), at("b", 5, 0), at("c", 5, 1), at("d", 3, 0))
	put(t, x, p, at("b", 2, 0))
	for _, k := range []struct {
		m    api.Mark
		want []api.Mark
	}{
		{at("b", 5, 0), []api.Mark{at("a", 5, 0), at("d", 3, 0), at("b", 2, 0)}},
		{at("b", 2, 0), nil},
		{at("b", 2, 1), []api.Mark{at("b", 2, 0)}},
		{at("b", 3, 0), []api.Mark{at("b", 2, 0)}},
		{at("e", 3, 0), []api.Mark{at("d", 3, 0), at("b", 2, 0)}},
		{at("", 5, 1), []api.Mark{at("a", 5, 0), at("d", 3, 0), at("b", 2, 0)}},
		{at("a", 1, 11), nil},
		{at("a", 9, 0), []api.Mark{at("c", 5, 1), at("a", 5, 0), at("d", 3, 0), at("b", 2, 0)}},
	} {
		sameList(t, "below "+told(k.m), x.Below(k.m, 9), k.want)
	}
	drop(t, x, p, "c")
	sameList(t, "below one that was dropped", x.Below(at("c", 5, 1), 2), []api.Mark{at("a", 5, 0), at("d", 3, 0)})
}

// Below the top there are all, those that are later than the zero mark, the zero mark, and those that are earlier.
func TestBelowTheTop(t *testing.T) {
	all := []api.Mark{at("a", 2, 0), at("b", 0, 1), at("c", 0, 0), top, at("d", 0, -1), at("e", -1, 7)}
	for left := range 1 << len(all) {
		var l []api.Mark
		for i, m := range all {
			if left>>i&1 == 0 {
				l = append(l, m)
			}
		}
		x, _ := with(t, l...)
		for n := -1; n < 9; n++ {
			sameList(t, fmt.Sprint(n, " below the top"), x.Below(top, n), newest(l, n))
		}
	}
}

// The top is the zero mark alone, not one that is zero but for one thing.
func TestBelowAlmostTheTop(t *testing.T) {
	later, earlier := at("a", 2, 0), at("e", -1, 7)
	x, _ := with(t, later, earlier)
	for _, m := range []api.Mark{at("a", 0, 0), at("\x00", 0, 0), at("", 0, 1), at("", 0, -1), at("", 1, 0)} {
		sameList(t, told(m), x.Below(m, 9), []api.Mark{earlier})
	}
	sameList(t, "the top", x.Below(top, 9), []api.Mark{later, earlier})
}

func TestMany(t *testing.T) {
	r := rand.New(rand.NewSource(7))
	const size = 5000
	l := row(size)
	x, _ := with(t, mixed(r, l)...)
	slices.Reverse(l)
	sameList(t, "all", x.Newest(size), l)
	if x.Len() != size {
		t.Fatal(x.Len())
	}
	for range 500 {
		i, n := r.Intn(size), r.Intn(20)
		sameList(t, fmt.Sprint(n, " below the mark ", i), x.Below(l[i], n), newest(l[i+1:], n))
	}
	for i := range l {
		if i%3 != 0 {
			is(t, told(l[i]), x.Drop(l[i].Key), true)
		}
	}
	var third []api.Mark
	for i := 0; i < size; i += 3 {
		third = append(third, l[i])
	}
	sameList(t, "a third of them", x.Newest(size), third)
}

// The order in which marks of unlike keys are put makes no difference.
func TestTheOrderOfPutsMakesNoDifference(t *testing.T) {
	for _, n := range []int{1, 2, 3, 4, 5} {
		l := row(n)
		_, p := with(t, l...)
		each(l, func(l []api.Mark) {
			x, _ := with(t, l...)
			same(t, told(l...), x, p)
		})
	}
	r := rand.New(rand.NewSource(8))
	for range 20 {
		_, p := with(t, row(30)...)
		for range 30 {
			p.put(anyMark(r))
		}
		for range 5 {
			x, _ := with(t, mixed(r, p.all())...)
			same(t, "in any order", x, p)
		}
	}
}

// each hands all orders of a list to a function.
func each(l []api.Mark, do func([]api.Mark)) {
	var from func(int)
	from = func(i int) {
		if i == len(l) {
			do(slices.Clone(l))
			return
		}
		for k := i; k < len(l); k++ {
			l[i], l[k] = l[k], l[i]
			from(i + 1)
			l[i], l[k] = l[k], l[i]
		}
	}
	from(0)
}

// Any calls in any order, with the plain index beside them.
func TestAnyCalls(t *testing.T) {
	for seed := range 60 {
		r := rand.New(rand.NewSource(int64(seed)))
		x, p := recent.New(), plain{}
		for i := range 120 {
			m := anyMark(r)
			switch r.Intn(6) {
			case 0, 1, 2:
				put(t, x, p, m)
			case 3:
				drop(t, x, p, m.Key)
			default:
				n := r.Intn(12) - 1
				all := p.all()
				what := fmt.Sprint("seed ", seed, ", call ", i, ": ", n)
				sameList(t, what, x.Newest(n), newest(all, n))
				sameList(t, what+" below "+told(m), x.Below(m, n), below(all, m, n))
				gives(t, what, x, p, m.Key)
			}
		}
		same(t, fmt.Sprint("seed ", seed), x, p)
	}
}

// P10.3.

// goDown gives all marks that one comes by; it gives up where there is no end.
func goDown(t *testing.T, first []api.Mark, x *recent.Index, n int) []api.Mark {
	t.Helper()
	var l []api.Mark
	for part := first; len(part) > 0; part = x.Below(part[len(part)-1], n) {
		l = append(l, part...)
		if len(l) > x.Len() {
			t.Fatalf("by %d: %s of %d marks, and no end", n, told(l...), x.Len())
		}
	}
	return l
}

// comesByAll fails the test where one doesn't come by all marks, each once, the latest first.
func comesByAll(t *testing.T, x *recent.Index, p plain) {
	t.Helper()
	all := p.all()
	for _, n := range []int{1, 2, 3, 4, 5, 7, 8, len(all) - 1, len(all), len(all) + 1, 1 << 32, math.MaxInt} {
		if n > 0 {
			sameList(t, fmt.Sprint("from Newest, by ", n), goDown(t, x.Newest(n), x, n), all)
			sameList(t, fmt.Sprint("from the top, by ", n), goDown(t, x.Below(top, n), x, n), all)
		}
	}
}

func TestGoingDown(t *testing.T) {
	for size := range 45 {
		x, p := with(t, row(size)...)
		comesByAll(t, x, p)
	}
	x, p := with(t, row(768)...)
	comesByAll(t, x, p)
	r := rand.New(rand.NewSource(9))
	for range 60 {
		x, p := recent.New(), plain{}
		for range r.Intn(80) {
			put(t, x, p, notZero(r))
		}
		comesByAll(t, x, p)
		for range r.Intn(20) {
			drop(t, x, p, anyMark(r).Key)
		}
		comesByAll(t, x, p)
	}
}

// So many may also be another number each time.
func TestGoingDownByAnyNumbers(t *testing.T) {
	r := rand.New(rand.NewSource(10))
	for range 300 {
		x, p := with(t, row(r.Intn(60))...)
		var l []api.Mark
		for part := x.Newest(1 + r.Intn(9)); len(part) > 0; part = x.Below(part[len(part)-1], 1+r.Intn(9)) {
			l = append(l, part...)
		}
		sameList(t, "by any numbers", l, p.all())
	}
}

// One that goes down comes by each mark once, also if those that it came by are put anew with later ones, as
// are clients' new ones: these stand ahead of where it is.
func TestGoingDownWhileLaterOnesCome(t *testing.T) {
	x, p := with(t, row(50)...)
	want := p.all()
	var l []api.Mark
	counter := 1000
	for part := x.Newest(4); len(part) > 0; part = x.Below(part[len(part)-1], 4) {
		l = append(l, part...)
		counter++
		is(t, "put anew", x.Put(at(part[0].Key, counter, 1)), true)
		is(t, "put", x.Put(at(fmt.Sprint("new", counter), counter, 0)), false)
	}
	sameList(t, "while later ones come", l, want)
}

// If the zero mark was put one comes by all as well, but behind it is the top again.
func TestGoingDownToTheZeroMark(t *testing.T) {
	x, p := with(t, top, at("a", 1, 0), at("b", 1, 0), at("c", 0, 0), at("d", 2, 5))
	all := p.all()
	for n := 1; n < 9; n++ {
		var l []api.Mark
		part := x.Newest(n)
		for l = append(l, part...); l[len(l)-1] != top; l = append(l, part...) {
			part = x.Below(part[len(part)-1], n)
		}
		sameList(t, fmt.Sprint("by ", n), l, all)
		sameList(t, fmt.Sprint("and then, by ", n), x.Below(top, n), newest(all, n))
	}
}

// K5: what is told is new memory, that neither changes nor is kept.

func TestWhatIsToldStays(t *testing.T) {
	r := rand.New(rand.NewSource(11))
	x, p := with(t, row(30)...)
	all := p.all()
	newer, lower := x.Newest(30), x.Below(all[9], 30)
	m, _ := x.Get(all[0].Key)
	for range 300 {
		put(t, x, p, anyMark(r))
		drop(t, x, p, all[r.Intn(30)].Key)
		put(t, x, p, at(all[r.Intn(30)].Key, r.Intn(9), 0))
	}
	sameList(t, "Newest", newer, all)
	sameList(t, "Below", lower, all[10:])
	if m != all[0] {
		t.Fatal(told(m), told(all[0]))
	}
}

func TestWhatIsToldIsNotKept(t *testing.T) {
	x, p := with(t, row(30)...)
	all := p.all()
	for _, ask := range []func(n int) []api.Mark{
		x.Newest,
		func(n int) []api.Mark { return x.Below(top, n) },
		func(n int) []api.Mark { return x.Below(all[4], n) },
		func(n int) []api.Mark { return x.Below(at("zz", 1, 2), n) },
	} {
		for _, n := range []int{0, 1, 5, 29, 30, 99} {
			l, again := ask(n), ask(n)
			want := slices.Clone(again)
			for i := range l {
				l[i] = at("changed", 99, i)
			}
			clear(l[:cap(l)])
			_ = append(l[:0], at("put behind", 98, 7), at("and one more", 97, 7))
			sameList(t, "the other one's", again, want)
			same(t, "behind a change", x, p)
		}
	}
}

// What stands behind an answer's last one isn't the index's.
func TestWhatIsPutBehindAnAnswer(t *testing.T) {
	x, p := with(t, row(30)...)
	for n := range 32 {
		l := x.Newest(n)
		_ = append(l, at("put behind", 99, 9))
		l = x.Below(top, n)
		_ = append(l, at("put behind", 99, 9))
		l = x.Below(p.all()[5], n)
		_ = append(l, at("put behind", 99, 9))
		same(t, fmt.Sprint("behind ", n), x, p)
	}
}

func TestWhatIsHandedInIsNotKept(t *testing.T) {
	b := []byte("key")
	x := recent.New()
	m := at(string(b), 5, 1)
	x.Put(m)
	clear(b)
	m.Act.Counter, m.Key = 9, "other"
	sameList(t, "written over", x.Newest(9), []api.Mark{at("key", 5, 1)})
	got, ok := x.Get("key")
	got.Act.Site = 7
	if again, there := x.Get("key"); !ok || !there || again != at("key", 5, 1) {
		t.Fatal(told(again), ok, there)
	}
}

// K6: indexes have nothing in common, and the same calls have the same answers.

func TestIndexesHaveNothingInCommon(t *testing.T) {
	x, p := with(t, row(20)...)
	y, q := with(t, at("k00003", 9, 9), at("a", 1, 1))
	same(t, "the one", x, p)
	drop(t, y, q, "k00003")
	put(t, y, q, at("k00004", 7, 7))
	same(t, "the one", x, p)
	drop(t, x, p, "k00004")
	put(t, x, p, at("a", 2, 2))
	same(t, "the other one", y, q)
	same(t, "a third one", recent.New(), plain{})
}

func TestAskingChangesNothing(t *testing.T) {
	r := rand.New(rand.NewSource(12))
	x, p := with(t, row(30)...)
	for range 300 {
		m := anyMark(r)
		x.Get(m.Key)
		x.Newest(r.Intn(40) - 5)
		x.Below(m, r.Intn(40)-5)
		x.Len()
		recent.Compare(m, anyMark(r))
	}
	same(t, "asked at will", x, p)
}

func TestTheSameAnswersToTheSame(t *testing.T) {
	story := func(seed int64) string {
		r := rand.New(rand.NewSource(seed))
		x := recent.New()
		var answers []any
		for range 80 {
			m := anyMark(r)
			answers = append(answers, x.Put(m), x.Drop(anyMark(r).Key), x.Len(), told(x.Newest(r.Intn(9))...))
			got, ok := x.Get(anyMark(r).Key)
			answers = append(answers, told(got), ok, told(x.Below(anyMark(r), r.Intn(9))...))
		}
		return fmt.Sprint(answers...)
	}
	var first []string
	for seed := range 30 {
		first = append(first, story(int64(seed)))
	}
	for seed := 29; seed >= 0; seed-- {
		if story(int64(seed)) != first[seed] {
			t.Fatal("seed ", seed)
		}
	}
}
