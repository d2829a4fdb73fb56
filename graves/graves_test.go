package graves_test

import (
	"fmt"
	"maps"
	"math"
	"math/rand"
	"slices"
	"strings"
	"testing"

	"quidnunc/api"
	"quidnunc/graves"
)

const (
	greatest = 1<<32 - 1 // counter
	oldest   = 1<<31 - 1 // age
	all      = 1<<12 - 1 // the bits of all sites
)

// at gives a stamp, that may be or not.
func at(counter, site int) api.Stamp { return api.Stamp{Counter: counter, Site: site} }

// dead gives a certificate, that may be if these may be.
func dead(key string, s, act api.Stamp, keepers, age int) api.Entry {
	return api.Entry{Key: key, Dead: true, Stamp: s, Act: act, Keepers: keepers, Age: age}
}

// kept gives a certificate that wasn't woken, and that all sites keep.
func kept(key string, s api.Stamp, age int) api.Entry { return dead(key, s, s, all, age) }

// live gives a live entry.
func live(key, value string, s api.Stamp) api.Entry {
	return api.Entry{Key: key, Value: value, Stamp: s, Act: s}
}

// keys are some that may be: they begin alike, have the bytes 0 and 255, and letters' order, or a text's
// length, would put them elsewhere; rising.
var keys = []string{
	"\x00", "\x00\x00", "\x00\xff", "10", "9", "B", "Z", "a", "a\x00", "aa", "ab", "abc", "a\x80", "a\xff", "b",
	"k123456789012345", "z", "zz", "\x7f", "\x80", "é", "\xf8", "\xff", "\xff\x00", strings.Repeat("\xff", 16),
}

// noKeys are such that no entry has.
var noKeys = []string{
	"", "k1234567890123456", strings.Repeat("a", 17), strings.Repeat("\xff", 17), strings.Repeat("x", 256), strings.Repeat("x", 5000),
}

// stamps are such that may be, rising; noStamps may not.
var (
	stamps   = []api.Stamp{at(1, 0), at(1, 1), at(1, 11), at(2, 0), at(255, 11), at(256, 0), at(1<<31, 5), at(greatest, 0), at(greatest, 11)}
	noStamps = []api.Stamp{
		{}, at(0, 3), at(-1, 3), at(1<<32, 3), at(1<<32+7, 3), at(math.MaxInt, 3), at(math.MinInt, 3),
		at(7, -1), at(7, 12), at(7, 255), at(7, 256), at(7, 1<<32), at(7, math.MaxInt), at(7, math.MinInt),
	}
)

// noKeepers and noAges are such as no certificate has.
var (
	noKeepers = []int{math.MinInt, -1 << 32, -4096, -4095, -1, 0, 4096, 4097, 8191, 65535, 1 << 32, 1<<32 + 1, math.MaxInt}
	noAges    = []int{math.MinInt, -1 << 32, -oldest, -2, -1, 1 << 31, 1 << 32, 1<<32 + 1, math.MaxInt}
)

// noSites are numbers that no site has, noTimes such as no grave is kept for.
var (
	noSites = []int{math.MinInt, -1 << 32, -12, -1, 12, 13, 64, 255, 256, 1 << 32, math.MaxInt}
	noTimes = []int{math.MinInt, -1 << 32, -oldest, -2, -1, 1 << 31, 1<<31 + 1, 1 << 32, 1<<32 + 1, math.MaxInt}
)

// order is 1 if the first of two stamps is later, -1 if the second one is, else 0.
func order(a, b api.Stamp) int {
	for _, p := range [][2]int{{a.Counter, b.Counter}, {a.Site, b.Site}} {
		if p[0] > p[1] {
			return 1
		}
		if p[0] < p[1] {
			return -1
		}
	}
	return 0
}

// mayBe is what the document says of a certificate that may be.
func mayBe(e api.Entry) bool {
	good := func(s api.Stamp) bool { return s.Counter > 0 && s.Counter <= greatest && s.Site >= 0 && s.Site <= 11 }
	return e.Dead && len(e.Key) > 0 && len(e.Key) <= 16 && e.Value == "" && good(e.Stamp) && good(e.Act) &&
		order(e.Act, e.Stamp) >= 0 && e.Keepers > 0 && e.Keepers <= all && e.Age >= 0 && e.Age <= oldest
}

// plain is graves as the document has them, in no order.
type plain struct {
	site, t2 int
	has      map[string]api.Entry
}

func (p *plain) bury(e api.Entry) bool {
	if !mayBe(e) || e.Keepers>>p.site%2 == 0 || e.Age >= p.t2 {
		return false
	}
	was, there := p.has[e.Key]
	is := was
	switch {
	case !there || order(e.Stamp, was.Stamp) == 1:
		is = e
	case order(e.Stamp, was.Stamp) == 0:
		if order(e.Act, is.Act) == 1 {
			is.Act = e.Act
		}
		if e.Age < is.Age {
			is.Age = e.Age
		}
	}
	p.has[e.Key] = is
	return is != was
}

func (p *plain) over(e api.Entry) bool {
	grave, there := p.has[e.Key]
	return there && order(grave.Stamp, e.Stamp) == 1
}

func (p *plain) tick() []string {
	var gone []string
	for _, e := range p.all() {
		if e.Age++; e.Age == p.t2 {
			gone = append(gone, e.Key)
			delete(p.has, e.Key)
		} else {
			p.has[e.Key] = e
		}
	}
	return gone
}

// all gives all graves, by keys: Go holds texts against each other byte by byte.
func (p *plain) all() []api.Entry {
	l := []api.Entry{}
	for _, key := range slices.Sorted(maps.Keys(p.has)) {
		l = append(l, p.has[key])
	}
	return l
}

// short gives a key for a message.
func short(key string) string {
	if len(key) > 20 {
		return fmt.Sprintf("%q.. of %d", key[:20], len(key))
	}
	return fmt.Sprintf("%q", key)
}

// told gives entries for a message.
func told(l ...api.Entry) string {
	s := fmt.Sprint(len(l), " entries")
	for i, e := range l {
		if i == 10 {
			return s + " .."
		}
		s += fmt.Sprint("; ", short(e.Key), " ", e.Dead, " ", e.Stamp, " ", e.Act, " ", e.Keepers, " ", e.Age)
	}
	return s
}

// is fails the test where a call doesn't tell what it should.
func is(t *testing.T, what string, got, want bool) {
	t.Helper()
	if got != want {
		t.Fatalf("%s: %v, want %v", what, got, want)
	}
}

// sameList fails the test where two lists of entries aren't the same.
func sameList(t *testing.T, what string, got, want []api.Entry) {
	t.Helper()
	if !slices.Equal(got, want) {
		t.Fatalf("%s: %s, want %s", what, told(got...), told(want...))
	}
}

// gives fails the test where a key hasn't the grave that it should.
func gives(t *testing.T, what string, g *graves.Graves, p *plain, key string) {
	t.Helper()
	e, ok := g.Get(key)
	want, there := p.has[key]
	if e != want || ok != there {
		t.Fatalf("%s: Get of %s: %s, %v; want %s, %v", what, short(key), told(e), ok, told(want), there)
	}
}

// over fails the test where it isn't told whether a grave is over an entry.
func over(t *testing.T, what string, g *graves.Graves, p *plain, e api.Entry) {
	t.Helper()
	is(t, what+": Over of "+told(e), g.Over(e), p.over(e))
}

// bury and tick do so, and fail the test where what they should isn't told.

func bury(t *testing.T, g *graves.Graves, p *plain, e api.Entry) {
	t.Helper()
	is(t, "Bury of "+told(e), g.Bury(e), p.bury(e))
}

func tick(t *testing.T, g *graves.Graves, p *plain) {
	t.Helper()
	if got, want := g.Tick(), p.tick(); !slices.Equal(got, want) {
		t.Fatalf("Tick: %q, want %q", got, want)
	}
}

// same fails the test where graves don't tell what they should, of any call that changes nothing.
func same(t *testing.T, what string, g *graves.Graves, p *plain) {
	t.Helper()
	if g.Len() != len(p.has) {
		t.Fatalf("%s: %d graves, want %d", what, g.Len(), len(p.has))
	}
	l := p.all()
	sameList(t, what+": All", g.All(), l)
	for _, key := range slices.Concat(keys, noKeys, []string{"never there"}) {
		gives(t, what, g, p, key)
		over(t, what, g, p, kept(key, at(1, 0), 0))
		over(t, what, g, p, live(key, "v", at(2, 11)))
		over(t, what, g, p, api.Entry{Key: key, Stamp: at(math.MinInt, math.MinInt)})
	}
	for _, e := range l {
		gives(t, what, g, p, e.Key)
		over(t, what, g, p, e)
	}
}

// fresh gives a site's graves without any, and what they should tell.
func fresh(t *testing.T, site, t2 int) (*graves.Graves, *plain) {
	t.Helper()
	g, e := graves.New(site, t2)
	if e != api.OK || g == nil {
		t.Fatal("no graves: ", site, t2, e)
	}
	return g, &plain{site, t2, map[string]api.Entry{}}
}

// with gives a site's graves in which some were buried, and what they should tell.
func with(t *testing.T, site, t2 int, l ...api.Entry) (*graves.Graves, *plain) {
	t.Helper()
	g, p := fresh(t, site, t2)
	for _, e := range l {
		bury(t, g, p, e)
	}
	return g, p
}

// refused fails the test where a certificate changes something, in graves without any and in such as have one of its key.
func refused(t *testing.T, site, t2 int, e api.Entry) {
	t.Helper()
	for _, l := range [][]api.Entry{nil, {dead(e.Key, at(5, 1), at(6, 1), all, t2-1)}, {dead("other", at(5, 1), at(6, 1), all, 0)}} {
		g, p := with(t, site, t2, l...)
		before := g.All()
		is(t, "Bury of "+told(e), g.Bury(e), false)
		sameList(t, "behind "+told(e), g.All(), before)
		same(t, "behind "+told(e), g, p)
	}
}

// row gives certificates of so many unlike keys, rising.
func row(n int) []api.Entry {
	var l []api.Entry
	for i := range n {
		l = append(l, dead(fmt.Sprintf("k%07d", i), at(1+i/7, i%12), at(2+i/7, i%5), all, i%9))
	}
	return l
}

// mixed gives the same entries in another order.
func mixed(r *rand.Rand, l []api.Entry) []api.Entry {
	l = slices.Clone(l)
	r.Shuffle(len(l), func(i, k int) { l[i], l[k] = l[k], l[i] })
	return l
}

// anyEntry draws one: of few keys, stamps, acts and ages, so that many are the same, or all but; some may not be.
func anyEntry(r *rand.Rand, t2 int) api.Entry {
	e := dead(keys[r.Intn(len(keys))], at(1+r.Intn(3), r.Intn(2)), api.Stamp{}, 1+r.Intn(all), r.Intn(min(t2, 6)+2))
	e.Act = at(e.Stamp.Counter+r.Intn(3), e.Stamp.Site+r.Intn(2))
	if r.Intn(3) > 0 {
		e.Keepers = all
	}
	switch r.Intn(20) {
	case 0:
		e.Key = noKeys[r.Intn(len(noKeys))]
	case 1:
		e.Stamp = noStamps[r.Intn(len(noStamps))]
	case 2:
		e.Act = noStamps[r.Intn(len(noStamps))]
	case 3:
		e.Keepers = noKeepers[r.Intn(len(noKeepers))]
	case 4:
		e.Age = noAges[r.Intn(len(noAges))]
	case 5:
		return live(e.Key, "v", e.Stamp)
	case 6:
		e.Value = "v"
	}
	return e
}

// P11.1: New.

func TestNoSuchGraves(t *testing.T) {
	none := func(site, t2 int, want api.Errno) {
		t.Helper()
		if g, e := graves.New(site, t2); g != nil || e != want {
			t.Errorf("site %d, %d ticks: %v, %d, want %d", site, t2, g, e, want)
		}
	}
	for _, site := range noSites {
		for _, t2 := range []int{0, 1, 5, oldest} {
			none(site, t2, api.ErrArg)
		}
		for _, t2 := range noTimes {
			none(site, t2, api.ErrArg) // the site is named first
		}
	}
	for site := range 12 {
		for _, t2 := range noTimes {
			none(site, t2, api.ErrRange)
		}
	}
}

func TestGravesWithoutAny(t *testing.T) {
	for site := range 12 {
		for _, t2 := range []int{0, 1, 2, 5, oldest - 1, oldest} {
			g, p := fresh(t, site, t2)
			same(t, "new", g, p)
			for range 3 {
				tick(t, g, p)
			}
			same(t, "behind ticks", g, p)
		}
	}
}

// P11.1: Bury.

func TestExample(t *testing.T) {
	g, e := graves.New(1, 2)
	if e != api.OK {
		t.Fatal(e)
	}
	c := dead("k", at(9, 1), at(9, 1), 1<<1, 0)
	is(t, "Bury", g.Bury(c), true)
	sameList(t, "buried", g.All(), []api.Entry{c})
	if gone := g.Tick(); len(gone) != 0 {
		t.Fatal(gone)
	}
	c.Age = 1
	sameList(t, "behind one tick", g.All(), []api.Entry{c})
	if gone := g.Tick(); !slices.Equal(gone, []string{"k"}) || g.Len() != 0 || len(g.All()) != 0 {
		t.Fatal(gone, g.Len())
	}
	got, ok := g.Get("k")
	is(t, "gone", ok || got != api.Entry{}, false)
}

func TestBuryWhatEachSiteHasToKeep(t *testing.T) {
	for site := range 12 {
		for _, t2 := range []int{1, 2, oldest} {
			for keeper := range 12 {
				g, p := fresh(t, site, t2)
				e := dead("k", at(3, 2), at(3, 2), 1<<keeper, 0)
				is(t, fmt.Sprint("site ", site, ", keeper ", keeper), g.Bury(e), site == keeper)
				p.bury(e)
				same(t, told(e), g, p)
			}
			refused(t, site, t2, dead("k", at(7, 2), at(7, 2), all-1<<site, 0))
		}
	}
}

func TestAllKeepers(t *testing.T) {
	for site := range 12 {
		g, p := fresh(t, site, 5)
		for keepers := 1; keepers <= all; keepers++ {
			e := dead("k", at(keepers, 0), at(keepers, 0), keepers, 4) // later each time
			is(t, fmt.Sprint("site ", site, ", keepers ", keepers), g.Bury(e), keepers&(1<<site) != 0)
			p.bury(e)
			gives(t, "of all keepers", g, p, "k")
		}
	}
}

// Only what is younger than they are kept for is buried.
func TestAges(t *testing.T) {
	for _, t2 := range []int{0, 1, 2, 3, 100, 1 << 16, 1 << 30, oldest - 1, oldest} {
		for _, age := range []int{-1, 0, 1, 2, t2 / 2, t2 - 2, t2 - 1, t2, t2 + 1, 2 * t2, oldest - 1, oldest, oldest + 1} {
			e := kept("k", at(7, 3), age)
			g, p := fresh(t, 4, t2)
			is(t, fmt.Sprint(t2, " ticks, age ", age), g.Bury(e), age >= 0 && age < t2)
			p.bury(e)
			same(t, fmt.Sprint(t2, " ticks, age ", age), g, p)
			if age < 0 || age >= t2 {
				refused(t, 4, t2, e)
			}
		}
	}
}

// If they are kept for no tick none is, ever.
func TestNoneIsKept(t *testing.T) {
	r := rand.New(rand.NewSource(1))
	for site := range 12 {
		g, p := fresh(t, site, 0)
		for range 100 {
			e := anyEntry(r, 3)
			is(t, told(e), g.Bury(e), false)
			if gone := g.Tick(); len(gone) > 0 || g.Len() > 0 {
				t.Fatal(gone, g.Len())
			}
		}
		same(t, "none", g, p)
	}
}

func TestLiveEntriesAreNotBuried(t *testing.T) {
	for site := range 12 {
		for _, s := range []api.Stamp{at(1, 0), at(5, 1), at(9, 9)} { // that of the grave is 5, 1
			refused(t, site, 5, live("k", "v", s))
			refused(t, site, 5, live("k", "", s))
		}
	}
}

func TestEntriesThatMayNotBe(t *testing.T) {
	good := kept("k", at(7, 3), 0)
	bad := func(change func(e *api.Entry)) {
		t.Helper()
		e := good
		change(&e)
		refused(t, 0, 5, e)
		refused(t, 11, oldest, e)
	}
	for _, key := range noKeys {
		bad(func(e *api.Entry) { e.Key = key })
	}
	for _, value := range []string{"v", "\x00", strings.Repeat("v", 32), strings.Repeat("v", 33), strings.Repeat("v", 5000)} {
		bad(func(e *api.Entry) { e.Value = value })
	}
	for _, s := range noStamps {
		bad(func(e *api.Entry) { e.Stamp = s })
		bad(func(e *api.Entry) { e.Act = s })
		bad(func(e *api.Entry) { e.Stamp, e.Act = s, s })
	}
	bad(func(e *api.Entry) { e.Act = at(7, 2) }) // earlier than the Stamp
	bad(func(e *api.Entry) { e.Act = at(6, 11) })
	for _, keepers := range noKeepers {
		bad(func(e *api.Entry) { e.Keepers = keepers })
	}
	for _, age := range noAges {
		bad(func(e *api.Entry) { e.Age = age })
	}
	// Nor are live entries with what only a certificate has, or the zero one.
	bad(func(e *api.Entry) { e.Dead = false })
	bad(func(e *api.Entry) { e.Dead, e.Value = false, "v" })
	bad(func(e *api.Entry) { e.Dead, e.Keepers = false, 0 })
	bad(func(e *api.Entry) { e.Dead, e.Age, e.Act = false, 1, at(8, 3) })
	bad(func(e *api.Entry) { *e = api.Entry{} })
	bad(func(e *api.Entry) { *e = api.Entry{Key: "k", Dead: true} })
}

func TestTheEdgesOfWhatMayBe(t *testing.T) {
	for _, site := range []int{0, 11} {
		g, p := fresh(t, site, oldest)
		for i, e := range []api.Entry{
			kept("a", at(1, 0), 0),
			kept("0123456789abcdef", at(greatest, 11), 0),
			kept("\x00", at(1, 11), oldest-1),
			kept(strings.Repeat("\xff", 16), at(greatest, 0), oldest-1),
			dead("\x80", at(1, 0), at(greatest, 11), 1<<site, 1),
			dead("é", at(7, 3), at(7, 4), 1|1<<11, 1<<30),
		} {
			is(t, fmt.Sprint("case ", i), g.Bury(e), true)
			is(t, fmt.Sprint("case ", i, " once more"), g.Bury(e), false)
			p.bury(e)
			same(t, fmt.Sprint("case ", i), g, p)
		}
		tick(t, g, p)
		same(t, "behind a tick", g, p)
	}
}

// What is behind a certificate whose key has a grave: each with each.
func TestBuryOnAGrave(t *testing.T) {
	grave := dead("k", at(5, 5), at(8, 5), 1<<3|1<<4, 4)
	for _, s := range []api.Stamp{at(1, 0), at(4, 11), at(5, 4), at(5, 5), at(5, 6), at(6, 0), at(8, 5), at(9, 9)} {
		for _, act := range []api.Stamp{at(4, 11), at(5, 4), at(5, 5), at(5, 6), at(8, 4), at(8, 5), at(8, 6), at(9, 0), at(greatest, 11)} {
			for _, age := range []int{0, 3, 4, 5, 8, 9, 10, 11} {
				for _, keepers := range []int{1 << 3, 1<<3 | 1<<4, all, all - 1<<3} {
					g, p := with(t, 3, 10, kept("j", at(5, 5), 1), grave, kept("l", at(5, 5), 1))
					bury(t, g, p, dead("k", s, act, keepers, age))
					sameList(t, told(dead("k", s, act, keepers, age)), g.All(), p.all())
				}
			}
		}
	}
}

// The same in words, one by one.
func TestAGraveOfAnotherStamp(t *testing.T) {
	grave := dead("k", at(5, 5), at(8, 5), 1<<3|1<<4, 4)
	for i, k := range []struct {
		e, want api.Entry
		other   bool
	}{
		// Later, whatever else there is: the certificate, whole.
		{dead("k", at(6, 0), at(6, 0), 1<<3, 9), dead("k", at(6, 0), at(6, 0), 1<<3, 9), true},
		{dead("k", at(5, 6), at(5, 6), all, 4), dead("k", at(5, 6), at(5, 6), all, 4), true},
		{dead("k", at(5, 6), at(8, 5), 1<<3|1<<4, 4), dead("k", at(5, 6), at(8, 5), 1<<3|1<<4, 4), true},
		{dead("k", at(9, 0), at(9, 9), 1<<3|1<<4, 0), dead("k", at(9, 0), at(9, 9), 1<<3|1<<4, 0), true},
		// Earlier, whatever else there is: nothing.
		{dead("k", at(5, 4), at(9, 9), all, 0), grave, false},
		{dead("k", at(4, 11), at(8, 5), 1<<3|1<<4, 4), grave, false},
		{dead("k", at(1, 0), at(1, 0), 1<<3, 9), grave, false},
		// The same: the later Act, the lesser Age, the grave's Keepers.
		{dead("k", at(5, 5), at(8, 5), 1<<3|1<<4, 4), grave, false},
		{dead("k", at(5, 5), at(8, 5), all, 4), grave, false},
		{dead("k", at(5, 5), at(5, 5), all, 4), grave, false},
		{dead("k", at(5, 5), at(8, 4), all, 9), grave, false},
		{dead("k", at(5, 5), at(8, 5), all, 5), grave, false},
		{dead("k", at(5, 5), at(5, 5), all, 3), dead("k", at(5, 5), at(8, 5), 1<<3|1<<4, 3), true},
		{dead("k", at(5, 5), at(8, 5), 1<<3, 0), dead("k", at(5, 5), at(8, 5), 1<<3|1<<4, 0), true},
		{dead("k", at(5, 5), at(8, 6), all, 9), dead("k", at(5, 5), at(8, 6), 1<<3|1<<4, 4), true},
		{dead("k", at(5, 5), at(9, 0), all, 4), dead("k", at(5, 5), at(9, 0), 1<<3|1<<4, 4), true},
		{dead("k", at(5, 5), at(9, 0), all, 3), dead("k", at(5, 5), at(9, 0), 1<<3|1<<4, 3), true},
	} {
		g, _ := with(t, 3, 10, grave)
		is(t, fmt.Sprint("case ", i), g.Bury(k.e), k.other)
		sameList(t, fmt.Sprint("case ", i), g.All(), []api.Entry{k.want})
		is(t, fmt.Sprint("case ", i, " once more"), g.Bury(k.e), false)
		sameList(t, fmt.Sprint("case ", i, " once more"), g.All(), []api.Entry{k.want})
	}
}

// A grave's Age, that ticks moved, is what a certificate's is held against.
func TestBuryAgainBehindTicks(t *testing.T) {
	g, p := with(t, 0, 6, kept("k", at(5, 5), 1))
	for range 3 {
		tick(t, g, p)
	}
	for _, k := range []struct {
		age   int
		other bool
	}{{6, false}, {5, false}, {4, false}, {3, true}, {3, false}, {0, true}, {1, false}} {
		e := kept("k", at(5, 5), k.age)
		is(t, fmt.Sprint("age ", k.age), g.Bury(e), k.other)
		p.bury(e)
		same(t, fmt.Sprint("age ", k.age), g, p)
	}
	for range 6 {
		tick(t, g, p)
		same(t, "to its end", g, p)
	}
	is(t, "gone", g.Len() == 0, true)
	// Nothing is known of it any more, so also an earlier one is buried.
	is(t, "Bury of an earlier one", g.Bury(kept("k", at(1, 0), 5)), true)
}

// Bury answers whether something is another one then, whatever comes.
func TestBuryTellsWhetherSomethingIsAnotherOne(t *testing.T) {
	r := rand.New(rand.NewSource(2))
	others := 0
	for range 50 {
		t2 := r.Intn(6)
		g, _ := fresh(t, r.Intn(12), t2)
		for range 200 {
			e := anyEntry(r, t2)
			before := g.All()
			other := g.Bury(e)
			is(t, told(e), other, !slices.Equal(before, g.All()))
			if other {
				others++
			}
			if r.Intn(20) == 0 {
				g.Tick()
			}
		}
	}
	if others < 500 {
		t.Fatal("too few: ", others)
	}
}

// P11.2: Get, Over.

func TestGet(t *testing.T) {
	g, p := fresh(t, 2, 5)
	for i, key := range keys {
		bury(t, g, p, dead(key, at(i+1, i%12), at(i+2, i%12), 1<<2|1<<(i%12), i%5))
		same(t, "as they come", g, p)
	}
	for _, key := range []string{"", "c", "k", "A", "aaa", "\xff\xff", "never", strings.Repeat("a", 5000)} {
		e, ok := g.Get(key)
		is(t, "no grave: "+short(key), ok || e != api.Entry{}, false)
	}
}

func TestOver(t *testing.T) {
	g, _ := with(t, 2, 5, dead("k", at(5, 5), at(9, 9), all, 3))
	for _, k := range []struct {
		s    api.Stamp
		want bool
	}{
		{at(1, 0), true}, {at(4, 11), true}, {at(5, 4), true}, {at(5, 0), true},
		{at(5, 5), false}, {at(5, 6), false}, {at(6, 0), false}, {at(9, 9), false}, {at(greatest, 11), false},
		// Any two stamps are held against each other.
		{api.Stamp{}, true}, {at(-7, 40), true}, {at(math.MinInt, 0), true}, {at(5, -1), true}, {at(5, math.MinInt), true},
		{at(5, 12), false}, {at(1<<32, 0), false}, {at(math.MaxInt, -9), false},
	} {
		for _, e := range []api.Entry{
			live("k", "v", k.s), live("k", "", k.s), kept("k", k.s, 0), kept("k", k.s, 4), kept("k", k.s, oldest),
			dead("k", k.s, at(greatest, 11), 1, 0), // the Act is nothing to it, nor who keeps it
			{Key: "k", Stamp: k.s},
			{Key: "k", Value: strings.Repeat("v", 99), Dead: true, Stamp: k.s, Keepers: -1, Age: -1},
		} {
			is(t, told(e), g.Over(e), k.want)
			for _, key := range []string{"", "j", "k\x00", "kk", "K", "\xff", strings.Repeat("k", 17)} {
				e.Key = key
				is(t, told(e), g.Over(e), false)
			}
		}
	}
}

// Of a key without a grave none is over anything, also what is earlier than all that may be.
func TestOverWithoutAGrave(t *testing.T) {
	r := rand.New(rand.NewSource(3))
	g, _ := fresh(t, 0, 5)
	for _, key := range slices.Concat(keys, noKeys) {
		for _, s := range slices.Concat(stamps, noStamps) {
			is(t, short(key)+fmt.Sprint(s), g.Over(live(key, "", s)) || g.Over(kept(key, s, 0)), false)
		}
	}
	for range 1000 {
		e := anyEntry(r, 5)
		is(t, told(e), g.Over(e), false)
	}
}

// P11.2: Tick.

func TestTickWhichNoneOneAndSeveralLeave(t *testing.T) {
	g, p := with(t, 1, 9,
		kept("d", at(1, 0), 6), kept("a", at(2, 0), 7), kept("\xff", at(3, 0), 6), kept("b", at(4, 0), 2),
		kept("A", at(5, 0), 6), kept("c", at(6, 0), 0), kept("aa", at(7, 0), 2))
	for i, want := range [][]string{nil, {"a"}, {"A", "d", "\xff"}, nil, nil, nil, {"aa", "b"}, nil, {"c"}, nil, nil} {
		gone := g.Tick()
		if !slices.Equal(gone, want) || !slices.Equal(p.tick(), want) {
			t.Fatalf("tick %d: %q, want %q", i, gone, want)
		}
		same(t, fmt.Sprint("behind tick ", i), g, p)
	}
}

func TestATickAtEachTime(t *testing.T) {
	for t2 := 1; t2 < 20; t2++ {
		for age := range t2 {
			g, p := with(t, 7, t2, kept("k", at(1, 0), age))
			for i := range t2 - age - 1 {
				tick(t, g, p)
				gives(t, fmt.Sprint("tick ", i, " of ", t2), g, p, "k")
				is(t, "is there yet", g.Len() == 1, true)
			}
			if gone := g.Tick(); !slices.Equal(gone, []string{"k"}) || g.Len() != 0 {
				t.Fatal(t2, age, gone, g.Len())
			}
		}
	}
}

func TestTicksOfTheOldest(t *testing.T) {
	g, p := with(t, 11, oldest, kept("a", at(1, 0), oldest-1), kept("b", at(1, 0), oldest-2), kept("c", at(1, 0), 0))
	for _, want := range [][]string{{"a"}, {"b"}, nil, nil} {
		if gone := g.Tick(); !slices.Equal(gone, want) {
			t.Fatal(gone, want)
		}
		p.tick()
		same(t, "the oldest", g, p)
	}
}

// A tick changes ages alone.
func TestATickChangesNothingElse(t *testing.T) {
	l := row(300)
	g, _ := with(t, 5, 99, l...)
	for i := range 50 {
		if gone := g.Tick(); len(gone) > 0 {
			t.Fatal(gone)
		}
		for k := range l {
			l[k].Age++
		}
		sameList(t, fmt.Sprint("tick ", i), g.All(), l)
	}
}

// P11.2: All, Len.

func TestAllIsRising(t *testing.T) {
	r := rand.New(rand.NewSource(4))
	var l []api.Entry
	for i, key := range keys {
		l = append(l, dead(key, at(99-i, 3), at(99, 4), all, i%4))
	}
	for range 50 {
		g, p := with(t, r.Intn(12), 4, mixed(r, l)...)
		sameList(t, "all", g.All(), l)
		same(t, "all", g, p)
		for range 4 {
			tick(t, g, p)
			sameList(t, "behind a tick", g.All(), p.all())
		}
	}
}

func TestLen(t *testing.T) {
	g, _ := fresh(t, 0, 9)
	for i, e := range row(500) {
		g.Bury(e)
		g.Bury(e)
		g.Bury(live("live", "", at(1, 0)))
		if g.Len() != i+1 {
			t.Fatal(g.Len(), i+1)
		}
	}
	for left := 500; left > 0; {
		if left -= len(g.Tick()); g.Len() != left {
			t.Fatal(g.Len(), left)
		}
	}
}

// There is no bound for how many graves there are, in whatever order they come.
func TestVeryMany(t *testing.T) {
	const size = 14000
	l := row(size)
	down := slices.Clone(l)
	slices.Reverse(down)
	inward := make([]api.Entry, 0, size) // the least, the greatest, the next ones
	for i := range size / 2 {
		inward = append(inward, l[i], l[size-1-i])
	}
	r := rand.New(rand.NewSource(5))
	for _, way := range []struct {
		what string
		in   []api.Entry
	}{{"up", l}, {"down", down}, {"inward", inward}, {"mixed", mixed(r, l)}} {
		g, p := fresh(t, 6, 10)
		for i, e := range way.in {
			is(t, way.what+told(e), g.Bury(e), true)
			p.has[e.Key] = e
			if g.Len() != i+1 {
				t.Fatal(way.what, g.Len(), i+1)
			}
		}
		veryMany(t, way.what, g, p, l)
	}
}

// veryMany goes on with graves that are as many.
func veryMany(t *testing.T, what string, g *graves.Graves, p *plain, l []api.Entry) {
	t.Helper()
	sameList(t, what, g.All(), l)
	for i, e := range l {
		is(t, what+": again", g.Bury(e), false)
		gives(t, what, g, p, e.Key)
		gives(t, what, g, p, e.Key+"\x00")
		e.Stamp.Site--
		over(t, what, g, p, e)
		if e.Stamp.Counter, e.Act.Counter = 5000, 5000; i%3 == 0 {
			e.Stamp.Site = 1
			bury(t, g, p, e)
		}
	}
	for range 4 {
		tick(t, g, p)
		sameList(t, what+": behind a tick", g.All(), p.all())
		for i := 0; i < len(l); i += 5 { // where some were, and between those that are there
			bury(t, g, p, kept(l[i].Key, l[i].Stamp, 8))
			bury(t, g, p, kept(l[i].Key+"+", at(1, 1), i%10))
		}
		sameList(t, what+": between", g.All(), p.all())
	}
	for len(p.has) > 0 {
		tick(t, g, p)
		sameList(t, what+": to their end", g.All(), p.all())
	}
	same(t, what+": none is left", g, p)
	bury(t, g, p, kept("k", at(1, 1), 1))
	same(t, what+": one anew", g, p)
}

// As many keys again and again in one place, ahead of all others, or behind them.
func TestVeryManyInOnePlace(t *testing.T) {
	for _, place := range []string{"0", "k0002000", "k0002047", "k0002048", "k0004095", "z"} {
		g, p := with(t, 6, 10, row(4096)...)
		for i := range 5000 {
			bury(t, g, p, kept(fmt.Sprintf("%s-%d", place, i), at(1, 1), i%10))
		}
		sameList(t, "behind "+place, g.All(), p.all())
		tick(t, g, p)
		sameList(t, "behind "+place+" and a tick", g.All(), p.all())
		for key := range p.has {
			gives(t, "behind "+place, g, p, key)
		}
	}
}

// Any calls in any order, with the plain graves beside them.
func TestAnyCalls(t *testing.T) {
	for seed := range 200 {
		r := rand.New(rand.NewSource(int64(seed)))
		t2 := r.Intn(7)
		g, p := fresh(t, r.Intn(12), t2)
		for i := range 150 {
			what := fmt.Sprint("seed ", seed, ", call ", i)
			e := anyEntry(r, t2)
			switch r.Intn(12) {
			case 0:
				tick(t, g, p)
			case 1:
				sameList(t, what, g.All(), p.all())
			case 2:
				gives(t, what, g, p, e.Key)
			case 3:
				over(t, what, g, p, e)
			default:
				bury(t, g, p, e)
			}
		}
		same(t, fmt.Sprint("seed ", seed), g, p)
	}
}

// P11.3.

func TestTheStampNeverFalls(t *testing.T) {
	rises, stays := 0, 0
	for seed := range 100 {
		r := rand.New(rand.NewSource(int64(seed)))
		t2 := 1 + r.Intn(8)
		g, _ := fresh(t, r.Intn(12), t2)
		had := map[string]api.Stamp{}
		for range 400 {
			if r.Intn(10) == 0 {
				g.Tick()
			} else {
				g.Bury(anyEntry(r, t2))
			}
			has := map[string]api.Stamp{}
			for _, e := range g.All() {
				has[e.Key] = e.Stamp
				before, there := had[e.Key]
				switch {
				case there && order(e.Stamp, before) < 0:
					t.Fatal(seed, told(e), before)
				case there && e.Stamp != before:
					rises++
				case there:
					stays++
				}
			}
			had = has
		}
	}
	if rises < 100 || stays < 1000 {
		t.Fatal("too few: ", rises, stays)
	}
}

// Whatever the order in which certificates of one key come: the grave has the latest Stamp, and of that
// Stamp the latest Act and the least Age.
func TestTheLatestStampStays(t *testing.T) {
	r := rand.New(rand.NewSource(6))
	var l []api.Entry
	for _, s := range stamps {
		for _, age := range []int{0, 3, 9, 10} {
			l = append(l, dead("k", s, s, all, age), dead("k", s, at(greatest, 11), all, age))
		}
	}
	for range 300 {
		part := mixed(r, l)[:1+r.Intn(len(l))]
		want := api.Entry{}
		for _, e := range part {
			if e.Age < 10 && order(e.Stamp, want.Stamp) > 0 {
				want = e
			}
		}
		for _, e := range part {
			if e.Age < 10 && e.Stamp == want.Stamp {
				want.Age = min(want.Age, e.Age)
				if order(e.Act, want.Act) > 0 {
					want.Act = e.Act
				}
			}
		}
		g, _ := with(t, 0, 10, part...)
		if got, _ := g.Get("k"); got != want {
			t.Fatal(told(got), told(want), told(part...))
		}
	}
}

// K5: what is handed in, or told, is neither changed nor kept.

func TestWhatIsToldStays(t *testing.T) {
	r := rand.New(rand.NewSource(7))
	l := row(40)
	g, p := with(t, 3, 10, l...)
	first := g.All()
	e, _ := g.Get(l[4].Key)
	for i := range l {
		bury(t, g, p, kept(l[i].Key, at(1000+i, 0), 9))
		bury(t, g, p, kept("new"+l[i].Key, at(1, 0), 9))
	}
	gone := g.Tick()
	p.tick()
	want := slices.Clone(gone)
	for range 300 {
		bury(t, g, p, anyEntry(r, 10))
	}
	for range 10 {
		tick(t, g, p)
	}
	sameList(t, "All", first, l)
	is(t, "Get", e == l[4], true)
	is(t, "Tick", len(gone) == 80 && slices.Equal(gone, want), true)
}

func TestWhatIsToldIsNotKept(t *testing.T) {
	g, p := with(t, 3, 10, row(40)...)
	for range 10 {
		one, other := g.All(), g.All()
		for i := range one {
			one[i] = kept("changed", at(1, 1), 3)
		}
		clear(one[:cap(one)])
		_ = append(one[:0], kept("put behind", at(2, 2), 2))
		_ = append(one, kept("put behind", at(3, 3), 3))
		sameList(t, "the other one", other, p.all())
		same(t, "written over", g, p)
		gone, again := g.Tick(), p.tick()
		is(t, "Tick", slices.Equal(gone, again), true)
		for i := range gone {
			gone[i] = "changed"
		}
		_ = append(gone, "put behind")
		same(t, "keys written over", g, p)
	}
	is(t, "all are gone", g.Len() == 0, true)
}

func TestWhatIsHandedInIsNotKept(t *testing.T) {
	b := []byte("key")
	e := kept(string(b), at(5, 5), 1)
	want := e
	g, _ := fresh(t, 3, 10)
	is(t, "Bury", g.Bury(e), true)
	is(t, "what was handed in", e == want, true)
	clear(b)
	e.Key, e.Age, e.Stamp = "other", 7, at(9, 9)
	got, _ := g.Get("key")
	is(t, "Get", got == want, true)
	got.Age, got.Keepers = 8, 1
	sameList(t, "written over", g.All(), []api.Entry{want})
}

// A call that is kept is one of the same graves, also behind a tick.
func TestCallsThatAreKept(t *testing.T) {
	g, p := fresh(t, 3, 3)
	get, length, allOf, overOf, buryIn, next := g.Get, g.Len, g.All, g.Over, g.Bury, g.Tick
	for i := range 9 {
		e := kept(keys[i], at(5, 5), i%3)
		is(t, "Bury", buryIn(e), p.bury(e))
		got, ok := get(keys[i])
		is(t, "Get", ok && got == e, true)
		is(t, "Over", overOf(live(keys[i], "", at(5, 4))), true)
		is(t, "Tick", slices.Equal(next(), p.tick()), true)
		sameList(t, "All", allOf(), p.all())
		is(t, "Len", length() == len(p.has), true)
		_, ok = get(keys[i])
		is(t, "Get behind a tick", ok, i%3 < 2)
		same(t, "kept calls", g, p)
	}
}

// K6: graves have nothing in common, and the same calls have the same answers.

func TestGravesHaveNothingInCommon(t *testing.T) {
	x, p := with(t, 3, 10, row(20)...)
	y, q := with(t, 3, 10, row(20)...)
	z, o := fresh(t, 4, 1)
	tick(t, x, p)
	same(t, "the other one", y, q)
	bury(t, y, q, kept("k0000003", at(999, 0), 0))
	bury(t, z, o, kept("a", at(1, 1), 0))
	same(t, "the one", x, p)
	same(t, "the other one", y, q)
	for range 10 {
		tick(t, y, q)
	}
	same(t, "the one", x, p)
	same(t, "the other one", y, q)
	same(t, "the third one", z, o)
}

func TestAskingChangesNothing(t *testing.T) {
	r := rand.New(rand.NewSource(8))
	g, p := with(t, 3, 10, row(60)...)
	for range 500 {
		e := anyEntry(r, 10)
		g.Get(e.Key)
		g.Over(e)
		g.All()
		g.Len()
		graves.New(r.Intn(14)-1, r.Intn(5)-1)
	}
	same(t, "asked at will", g, p)
}

func TestTheSameAnswersToTheSame(t *testing.T) {
	story := func(seed int64) string {
		r := rand.New(rand.NewSource(seed))
		t2 := r.Intn(6)
		g, e := graves.New(r.Intn(12), t2)
		answers := []any{e}
		for range 100 {
			got, ok := g.Get(keys[r.Intn(len(keys))])
			answers = append(answers, g.Bury(anyEntry(r, t2)), g.Over(anyEntry(r, t2)), got, ok, g.Len(), g.All())
			if r.Intn(9) == 0 {
				answers = append(answers, strings.Join(g.Tick(), ", "))
			}
		}
		return fmt.Sprint(answers...)
	}
	var first []string
	for seed := range 30 {
		first = append(first, story(int64(seed)))
	}
	for seed := 29; seed >= 0; seed-- {
		if story(int64(seed)) != first[seed] {
			t.Fatal("seed ", seed)
		}
	}
}
