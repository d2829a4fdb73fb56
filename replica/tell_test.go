package replica_test

import (
	"fmt"
	"math"
	"math/rand"
	"slices"
	"strings"
	"testing"

	"quidnunc/api"
	"quidnunc/disk"
	"quidnunc/replica"
	"quidnunc/table"
)

// numbers are how many may be asked for, where there are so many.
func numbers(size int) []int {
	return []int{math.MinInt, -size, -1, 0, 1, 2, size - 1, size, size + 1, 2*size + 7, 1 << 32, math.MaxInt}
}

// P12.5: Get, Scan.

func TestGet(t *testing.T) {
	b := begin(t, 0, with(2, 4, 3, 3), live("a", "1", at(1, 0)), live("b", "", at(2, 1)), kept("c", at(3, 1), 0))
	for key, want := range map[string]string{"a": "1 true", "b": " true", "c": " false", "d": " false", "": " false", "aa": " false", strings.Repeat("a", 999): " false"} {
		v, ok := b.r.Get(key)
		if got := fmt.Sprint(v, " ", ok); got != want {
			t.Errorf("%s: %q, want %q", short(key), got, want)
		}
	}
}

// several has live entries and certificates, of keys that letters' order, or a text's length, would put elsewhere.
func several() []api.Entry {
	var l []api.Entry
	for i, key := range []string{"\x00", "\x00\x00", "10", "9", "B", "Z", "a", "a\x00", "aa", "ab", "a\xff", "b", "zz", "\x7f", "\x80", "é", "\xff", "\xff\x00"} {
		if i%3 == 1 {
			l = append(l, kept(key, at(1+i*7%5, i%12), 1))
		} else {
			l = append(l, live(key, fmt.Sprint("v", i), at(1+i*7%5, i%12)))
		}
	}
	return l
}

func TestScan(t *testing.T) {
	l := several()
	b := begin(t, 0, with(2, 9, 3, 5), l...)
	froms := append([]string{"", "\x00\x00\x00", "1", "a\x01", "zzz", "\xff\x00\x00", strings.Repeat("\xff", 99)}, noKeys...)
	for _, e := range l {
		froms = append(froms, e.Key)
	}
	for _, from := range froms {
		for n := -2; n < len(l)+3; n++ {
			b.scans(from, n)
		}
		for _, n := range numbers(len(l)) {
			b.scans(from, n)
		}
	}
	if got := fmt.Sprint(b.r.Scan("a", 3)); got != "[{a v6} {aa v8} {ab v9}]" {
		t.Error(got)
	}
}

// scans fails the test where Scan tells something else than it should.
func (b *both) scans(from string, n int) {
	b.Helper()
	if got, want := b.r.Scan(from, n), b.p.scan(from, n); !slices.Equal(got, want) {
		b.Fatalf("Scan from %s, %d: %q, want %q", short(from), n, got, want)
	}
}

func TestScanOfNothing(t *testing.T) {
	for _, log := range [][]api.Entry{nil, {kept("a", at(1, 1), 0)}, {kept("a", at(1, 1), 0), kept("b", at(1, 1), 0)}} {
		b := begin(t, 0, with(2, 4, 0, 0), log...)
		for _, n := range numbers(2) {
			b.scans("", n)
			b.scans("a", n)
		}
	}
}

// P12.5: Below.

// belows fails the test where Below tells something else than it should.
func (b *both) belows(m api.Mark, n int) []api.Entry {
	b.Helper()
	l := b.r.Below(m, n)
	b.sameList(fmt.Sprint("Below ", m.Act, " ", short(m.Key), ", ", n), l, b.p.below(m, n))
	return l
}

func TestBelow(t *testing.T) {
	l := several()
	b := begin(t, 0, with(2, 9, 3, 5), l...)
	marks := []api.Mark{
		{}, {Key: "a"}, {Act: at(0, 1)}, {Act: at(1, 0)}, {Act: at(3, 0), Key: "never there"}, {Act: at(3, 11), Key: "\xff\xff"}, {Act: at(math.MinInt, 0)},
		{Act: at(math.MaxInt, math.MaxInt)}, {Act: at(2, -1), Key: "a"}, {Act: at(2, 12), Key: strings.Repeat("k", 999)},
	}
	for _, e := range l {
		marks = append(marks, mark(e), api.Mark{Act: e.Act}, api.Mark{Act: e.Act, Key: e.Key + "\x00"}, api.Mark{Act: at(e.Act.Counter, e.Act.Site+1), Key: e.Key})
	}
	for _, m := range marks {
		for n := -2; n < len(l)+3; n++ {
			b.belows(m, n)
		}
		for _, n := range numbers(len(l)) {
			b.belows(m, n)
		}
	}
	earliest := l[0]
	for _, e := range l {
		if earlier(mark(e), mark(earliest)) {
			earliest = e
		}
	}
	if some := b.r.Below(mark(earliest), 9); len(some) != 0 {
		t.Error(told(some...))
	}
}

// Going down one comes by all entries, each once; by their Acts, not by their Stamps.
func TestGoingDown(t *testing.T) {
	b := begin(t, 0, with(2, 9, 3, 5), several()...)
	b.tick()
	b.tick() // now there is room
	b.becomes(dead("woken", at(1, 1), at(99, 0), 1, 0), replica.Taken)
	for n := 1; n < 20; n++ {
		var met []api.Entry
		for some := b.belows(api.Mark{}, n); len(some) > 0; some = b.belows(mark(some[len(some)-1]), n) {
			met = append(met, some...)
		}
		b.sameList(fmt.Sprint("by ", n), met, b.p.below(api.Mark{}, very))
		if len(met) != len(b.p.has) || met[0].Key != "woken" {
			t.Fatal(n, len(met), met[0].Key)
		}
	}
}

// P12.5: all of it, whatever came about.

func TestAnyCalls(t *testing.T) {
	woken, left := 0, 0
	for seed := range 600 {
		r := rand.New(rand.NewSource(int64(seed)))
		o := anyOptions(r)
		b := begin(t, r.Intn(o.Nodes), o)
		for i := range 120 {
			before := len(b.p.has)
			anyCall(r, b)
			if len(b.p.has) < before {
				left++
			}
			if n := len(b.p.log); n > 0 && order(b.p.log[n-1].Act, b.p.log[n-1].Stamp) > 0 && b.p.log[n-1].Act.Site == b.p.site {
				woken++
			}
			if i%10 == 0 {
				b.belows(mark(anyEntry(r, b.p)), r.Intn(9))
				b.scans(string(rune('a'+r.Intn(7))), r.Intn(9))
				b.same(fmt.Sprint("seed ", seed, ", call ", i))
			}
		}
		b.same(fmt.Sprint("seed ", seed))
		b.anew(fmt.Sprint("seed ", seed))
	}
	if woken < 100 || left < 1000 {
		t.Fatal("too few: ", woken, left)
	}
}

// anew opens the replica anew, if there is room for all keys that were ever set down.
func (b *both) anew(what string) {
	b.Helper()
	keys := map[string]bool{}
	for _, e := range b.p.log {
		keys[e.Key] = true
	}
	if len(keys) > b.p.o.Nodes*b.p.o.Quota {
		noReplica(b.T, what, b.p.site, b.p.o, b.d, api.ErrRot)
		return
	}
	b.open(b.p.site, b.p.o, b.p.log...)
}

// As many entries as there may be.
func TestAsManyAsThereMayBe(t *testing.T) {
	b := begin(t, 11, with(12, 64, 9, 9))
	r := rand.New(rand.NewSource(3))
	for site := range 12 {
		for i := range 64 {
			key := fmt.Sprint("k", (site*64+i)*7919%768)
			if site == 11 {
				b.put(key, "v")
			} else {
				b.merge(live(key, strings.Repeat("v", r.Intn(33)), at(1+r.Intn(3000), site)))
			}
		}
	}
	b.same("full")
	if len(b.r.Entries()) != 768 || len(b.r.Own()) != 64 {
		t.Fatal(len(b.r.Entries()), len(b.r.Own()))
	}
	for range 400 {
		b.merge(kept(fmt.Sprint("k", r.Intn(768)), at(1+r.Intn(3000), r.Intn(12)), r.Intn(9)))
	}
	b.same("with certificates")
	for range 9 {
		b.tick()
		b.same("behind a tick")
	}
	b.anew("as many as there may be")
}

// K5: what is handed in, or told, is neither changed nor kept.

func TestWhatIsToldStays(t *testing.T) {
	b := begin(t, 0, with(2, 12, 3, 5), several()...)
	entries, graves, below := b.r.Entries(), b.r.Graves(), b.r.Below(api.Mark{}, very)
	own, scan, wasOwn, wasScan := b.r.Own(), b.r.Scan("", very), b.r.Own(), b.p.scan("", very)
	wasEntries, wasGraves, wasBelow := b.p.entries(), rising(b.p.graves), b.p.below(api.Mark{}, very)
	b.tick()
	gone := b.tick()
	was := slices.Clone(gone)
	for _, e := range wasEntries {
		b.merge(live(e.Key, "later", at(900, 1)))
		b.put(e.Key, "own")
		b.del(e.Key)
	}
	for range 6 {
		b.tick()
	}
	b.sameList("Entries", entries, wasEntries)
	b.sameList("Graves", graves, wasGraves)
	b.sameList("Below", below, wasBelow)
	if !slices.Equal(own, wasOwn) || !slices.Equal(scan, wasScan) || !slices.Equal(gone, was) || len(gone) != 6 {
		t.Fatal(own, scan, gone)
	}
}

func TestWhatIsToldIsNotKept(t *testing.T) {
	b := begin(t, 0, with(2, 12, 9, 9), several()...)
	lists := []func() []api.Entry{b.r.Entries, b.r.Graves, func() []api.Entry { return b.r.Below(api.Mark{}, 5) }}
	for i, list := range lists {
		one, other := list(), list()
		want := slices.Clone(other)
		if len(one) == 0 {
			t.Fatal("nothing: ", i)
		}
		for k := range one {
			one[k] = live("changed", "changed", at(7, 7))
		}
		_ = append(one[:1], live("put behind", "", at(8, 8)))
		_ = append(one, live("put behind", "", at(8, 8)))
		b.sameList("the other list", other, want)
		b.same("written over")
	}
	own, scan := b.r.Own(), b.r.Scan("", very)
	for i := range own {
		own[i] = "changed"
	}
	for i := range scan {
		scan[i] = table.Pair[string]{Key: "changed", Value: "changed"}
	}
	_, _ = append(own[:1], "put behind"), append(scan[:1], table.Pair[string]{})
	b.same("written over")
	for range 8 {
		gone := b.tick()
		for i := range gone {
			gone[i] = "changed"
		}
		b.same("keys written over")
	}
}

func TestWhatIsHandedInIsNotKept(t *testing.T) {
	o := with(2, 4, 3, 5)
	b := begin(t, 0, o)
	key, value := []byte("key"), []byte("value")
	b.put(string(key), string(value))
	e := kept("dead", at(9, 1), 0)
	want := e
	b.merge(e)
	if e != want {
		t.Fatal(told(e))
	}
	clear(key)
	clear(value)
	e.Key, e.Age, o.T1, o.Quota = "other", 7, 1, 1
	b.same("written over")
	b.tick()
	b.put("more", "")
	b.same("options written over")
}

// K6: replicas have nothing in common, and the same calls have the same answers.

func TestReplicasHaveNothingInCommon(t *testing.T) {
	x := begin(t, 0, with(2, 12, 3, 5), several()...)
	y := begin(t, 0, with(2, 12, 3, 5), several()...)
	z := begin(t, 1, with(2, 2, 0, 0))
	x.tick()
	y.same("the other one")
	x.put("mine", "v")
	y.del("a")
	z.put("a", "z")
	y.becomes(kept("b", at(77, 1), 0), replica.Taken)
	x.same("the one")
	y.same("the other one")
	z.same("the third one")
	x.anew("the one")
	y.anew("the other one")
	z.anew("the third one")
}

func TestAskingChangesNothing(t *testing.T) {
	b := begin(t, 0, with(2, 12, 3, 5), several()...)
	before := b.d.Len()
	b.d.Fuse(0)
	for i := range 50 {
		b.same(fmt.Sprint("asked ", i))
		replica.Check(anyOptions(rand.New(rand.NewSource(int64(i)))))
		replica.Open(0, b.p.o, disk.New())
	}
	if b.d.Len() != before || !b.d.On() {
		t.Fatal(b.d.Len(), before)
	}
}

func TestTheSameAnswersToTheSame(t *testing.T) {
	story := func(seed int64) string {
		r := rand.New(rand.NewSource(seed))
		o := anyOptions(r)
		b := begin(t, r.Intn(o.Nodes), o)
		var answers []string
		for range 60 {
			anyCall(r, b)
			answers = append(answers, fmt.Sprint(b.r.Entries(), b.r.Graves(), b.r.Own(), b.r.Sum(), b.r.Now(), b.r.Below(api.Mark{}, 4)))
		}
		return strings.Join(answers, "\n") + fmt.Sprint(bytesOf(t, b.d))
	}
	var first []string
	for seed := range 20 {
		first = append(first, story(int64(seed)))
	}
	for seed := 19; seed >= 0; seed-- {
		if story(int64(seed)) != first[seed] {
			t.Fatal("seed ", seed)
		}
	}
}
