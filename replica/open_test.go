package replica_test

import (
	"bytes"
	"fmt"
	"math"
	"math/rand"
	"slices"
	"testing"

	"quidnunc/api"
	"quidnunc/disk"
	"quidnunc/entry"
	"quidnunc/journal"
	"quidnunc/replica"
)

// P12.1: Check.

// fine gives options that may be: all edges, with one another.
func fine() []replica.Options {
	var l []replica.Options
	for _, nodes := range []int{1, 2, 11, 12} {
		for _, quota := range []int{1, 2, 63, 64} {
			for _, retain := range []int{1, (nodes + 1) / 2, nodes} {
				for _, t := range [][2]int{{0, 0}, {1, 1}, {1, 2}, {1, oldest}, {5, 5}, {5, 6}, {oldest - 1, oldest}, {oldest, oldest}} {
					l = append(l, replica.Options{Nodes: nodes, Quota: quota, Retain: retain, T1: t[0], T2: t[1]})
				}
			}
		}
	}
	return l
}

// of gives the options of numbers.
func of(l [5]int) replica.Options {
	return replica.Options{Nodes: l[0], Quota: l[1], Retain: l[2], T1: l[3], T2: l[4]}
}

// wrong gives options that may not be: one number at a time.
func wrong() []replica.Options {
	var l []replica.Options
	for _, good := range [][5]int{{4, 7, 2, 0, 0}, {4, 7, 4, 3, 5}, {4, 7, 1, oldest, oldest}} {
		for place, numbers := range [5][]int{
			{math.MinInt, -4, -1, 0, 13, 14, 64, 1<<32 + 4, math.MaxInt},
			{math.MinInt, -7, -1, 0, 65, 66, 256, 1<<32 + 7, math.MaxInt},
			{math.MinInt, -2, -1, 0, 5, 6, 12, 1<<32 + 2, math.MaxInt},
			{math.MinInt, -3, -1, oldest + 1, 1 << 32, 1<<32 + 3, math.MaxInt},
			{math.MinInt, -5, -1, oldest + 1, 1 << 32, 1<<32 + 5, math.MaxInt},
		} {
			for _, n := range numbers {
				bad := good
				bad[place] = n
				l = append(l, of(bad))
			}
		}
	}
	return l
}

func TestOptionsThatMayBe(t *testing.T) {
	for _, o := range fine() {
		if e := replica.Check(o); e != api.OK {
			t.Fatal(o, e)
		}
		for _, site := range []int{0, o.Nodes / 2, o.Nodes - 1} {
			b := begin(t, site, o)
			if b.tick(); b.r.Now() != 0 || b.d.Len() != 0 {
				t.Fatal(o, site, b.r.Now(), b.d.Len())
			}
		}
	}
}

func TestOptionsThatMayNotBe(t *testing.T) {
	l := wrong()
	for _, t := range [][2]int{{0, 1}, {0, 2}, {0, oldest}, {1, 0}, {5, 0}, {5, 4}, {oldest, oldest - 1}, {oldest, 0}} {
		l = append(l, with(4, 7, t[0], t[1]))
	}
	l = append(l, of([5]int{}), of([5]int{1, 1, 2}), of([5]int{12, 64, 13}))
	for _, o := range l {
		if e := replica.Check(o); e != api.ErrConfig {
			t.Error(o, e)
		}
		noReplica(t, fmt.Sprint(o), 0, o, disk.New(), api.ErrConfig)
	}
}

// noReplica fails the test where Open has another error, or a replica beside it.
func noReplica(t *testing.T, what string, site int, o replica.Options, d *disk.Disk, want api.Errno) {
	t.Helper()
	if r, e := replica.Open(site, o, d); r != nil || e != want {
		t.Errorf("%s: replica %v, error %d, want %d", what, r != nil, e, want)
	}
}

// P12.1: Open, and its errors' order.

func TestSitesThatMayNotBe(t *testing.T) {
	for _, nodes := range []int{1, 2, 11, 12} {
		for _, site := range []int{math.MinInt, -1 << 32, -12, -1, nodes, nodes + 1, 12, 64, 1 << 32, math.MaxInt} {
			noReplica(t, fmt.Sprint("site ", site, " of ", nodes), site, with(nodes, 4, 0, 0), disk.New(), api.ErrArg)
		}
		for site := range nodes {
			begin(t, site, with(nodes, 4, 3, 5))
		}
	}
}

// powerless gives a disk without power.
func powerless(t *testing.T, log ...api.Entry) *disk.Disk {
	t.Helper()
	d := laid(t, log...)
	d.Fuse(0)
	if d.Sync() != api.ErrPower || d.On() {
		t.Fatal("there is power")
	}
	return d
}

// rotten gives a disk of which a byte was turned.
func rotten(t *testing.T) *disk.Disk {
	t.Helper()
	d := laid(t, row(3, 0)...)
	if d.Turn(20, 64) != api.OK {
		t.Fatal("not turned")
	}
	return d
}

func TestTheOrderOfOpensErrors(t *testing.T) {
	o, bad := with(2, 2, 0, 0), with(2, 65, 0, 0)
	for _, d := range []*disk.Disk{powerless(t), powerless(t, row(5, 0)...), rotten(t), laid(t, row(5, 0)...)} {
		noReplica(t, "options, site, disk", -1, bad, d, api.ErrConfig)
		noReplica(t, "options, disk", 0, bad, d, api.ErrConfig)
		noReplica(t, "site, disk", 2, o, d, api.ErrArg)
	}
	noReplica(t, "no power", 0, o, powerless(t, row(2, 0)...), api.ErrPower)
	noReplica(t, "no power, too many keys", 0, o, powerless(t, row(5, 0)...), api.ErrPower)
	noReplica(t, "rot", 0, o, rotten(t), api.ErrRot)
	noReplica(t, "too many keys", 0, o, laid(t, row(5, 0)...), api.ErrRot)
}

func TestAnEmptyDisk(t *testing.T) {
	d := disk.New()
	d.Fuse(0) // nothing is to be changed
	r, e := replica.Open(1, with(2, 4, 3, 5), d)
	if e != api.OK || !d.On() || d.Len() != 0 {
		t.Fatal(e, d.On(), d.Len())
	}
	(&both{t, d, r, opened(1, with(2, 4, 3, 5))}).same("empty")
}

func TestOpenOfWholeRecordsChangesNothing(t *testing.T) {
	d := laid(t, row(8, 0)...)
	before := bytesOf(t, d)
	d.Fuse(0)
	if _, e := replica.Open(0, with(2, 8, 0, 0), d); e != api.OK || !d.On() || !bytes.Equal(bytesOf(t, d), before) {
		t.Fatal(e, d.On())
	}
}

// What isn't whole is cut off, as the journal does, and with its error.
func TestARecordThatIsNotWhole(t *testing.T) {
	o, log := with(2, 4, 0, 0), row(3, 0)
	whole := laid(t, log[:2]...).Len()
	for n := whole + 1; n < laid(t, log...).Len(); n++ {
		d := laid(t, log...)
		if d.Trim(n) != api.OK {
			t.Fatal("not trimmed")
		}
		d.Fuse(0)
		noReplica(t, "not cut off", 0, o, d, api.ErrPower)
		d.Crash(0)
		b := &both{T: t, d: d}
		b.open(0, o, log[:2]...)
		if d.Len() != whole {
			t.Fatal(n, d.Len(), whole)
		}
		b.put("more", "v")
		b.open(0, o, b.p.log...)
	}
}

func TestAnyByteTurned(t *testing.T) {
	o, log := with(2, 4, 3, 5), []api.Entry{live("a", "1", at(1, 0)), kept("b", at(2, 0), 1), live("c", "", at(3, 1))}
	for i := range laid(t, log...).Len() {
		for _, by := range []byte{1, 2, 16, 128, 255} {
			d := laid(t, log...)
			if d.Turn(i, by) != api.OK {
				t.Fatal("not turned")
			}
			noReplica(t, fmt.Sprint("byte ", i, " by ", by), 0, o, d, api.ErrRot)
		}
	}
}

// P12.1: records that are no entries.

// noEntries gives bytes that are no entry's.
func noEntries(t *testing.T) [][]byte {
	t.Helper()
	good, code := entry.Encode(kept("key", at(7, 3), 9))
	if code != api.OK {
		t.Fatal(code)
	}
	l := [][]byte{{0}, {1}, {255}, bytes.Repeat([]byte{0}, len(good)), bytes.Repeat([]byte{1}, 512), append(slices.Clone(good), 0)}
	for n := 1; n < len(good); n++ {
		l = append(l, good[:n])
	}
	with := func(i int, v byte) { // a byte that is another one
		b := slices.Clone(good)
		b[i] = v
		l = append(l, b)
	}
	end := len(good)
	with(0, 0)       // no key
	with(0, 17)      // too long a key
	with(4, 2)       // no flag
	with(4, 0)       // live, with keepers
	with(5, 33)      // too long a value
	with(6, 0)       // the counter 0
	with(10, 12)     // no site
	with(11, 6)      // an Act that is earlier
	with(15, 2)      // likewise
	with(end-5, 16)  // keepers that there aren't
	with(end-1, 128) // too old
	return l
}

func TestRecordsThatAreNoEntries(t *testing.T) {
	o, log := with(2, 4, 20, 30), row(3, 0)
	for i, body := range noEntries(t) {
		if _, code := entry.Decode(body); code == api.OK {
			t.Fatal("it is one: ", i, body)
		}
		for place := range 4 {
			d := laid(t, log[:place]...)
			layRecord(t, d, body)
			for _, e := range log[place:] {
				b, _ := entry.Encode(e)
				layRecord(t, d, b)
			}
			before := bytesOf(t, d)
			noReplica(t, fmt.Sprint("no entry ", i, " in place ", place), 0, o, d, api.ErrRot)
			if !d.On() || !bytes.Equal(bytesOf(t, d), before) {
				t.Fatal("the disk is changed")
			}
		}
	}
}

// P12.1: room.

func TestRoomForAllKeys(t *testing.T) {
	for _, o := range []replica.Options{with(1, 1, 0, 0), with(1, 5, 3, 3), with(3, 1, 0, 0), with(2, 3, 0, 0), with(12, 64, 0, 0)} {
		room := o.Nodes * o.Quota
		l := row(room+1, 7)
		b := begin(t, 0, o, l[:room]...)
		if len(b.r.Entries()) != room {
			t.Fatal(o, len(b.r.Entries()))
		}
		again := slices.Clone(l[:room])
		for i := range 5 {
			again = append(again, live(l[0].Key, "again", at(5000+i, 3)), kept(l[room-1].Key, at(6000+i, 3), 1))
		}
		begin(t, 0, o, again...)
		for _, more := range []api.Entry{l[room], kept("a", at(1, 1), 0), kept("z", at(1, 1), oldest)} {
			for _, place := range []int{0, room / 2, room} {
				noReplica(t, fmt.Sprint(o, " one key more"), 0, o, laid(t, slices.Insert(slices.Clone(l[:room]), place, more)...), api.ErrRot)
			}
		}
	}
}

// P12.1: what the records come to.

// versions are some of one key, such that each is newer than the one ahead.
var versions = []api.Entry{
	live("k", "old", at(1, 0)), live("k", "of a later site", at(1, 1)), kept("k", at(2, 0), 0), dead("k", at(2, 0), at(2, 1), all, 1),
	dead("k", at(2, 0), at(9, 0), all, 0), live("k", "", at(3, 11)), live("k", "new", at(256, 0)),
}

func TestOpenTakesTheNewest(t *testing.T) {
	r := rand.New(rand.NewSource(1))
	for range 200 {
		l := mixed(r, versions)[:1+r.Intn(len(versions))]
		for _, t1 := range []int{0, 3} {
			begin(t, r.Intn(3), with(3, 1, t1, 2*t1), l...)
			begin(t, r.Intn(3), with(3, 1, t1, 2*t1), append(mixed(r, l), l...)...)
		}
	}
	b := begin(t, 0, with(2, 2, 0, 0), mixed(r, versions)...)
	if e, ok := b.r.Entry("k"); !ok || e != versions[len(versions)-1] {
		t.Fatal(told(e), ok)
	}
}

// Of several that are as new as one another the first one counts.
func TestOpenOfEntriesThatAreAsNew(t *testing.T) {
	s := at(5, 1)
	l := []api.Entry{live("k", "one", s), live("k", "two", s), live("k", "", s), dead("k", s, s, 1, 3), dead("k", s, s, 2, 0), dead("k", s, s, 3, 4)}
	for i := range l {
		for k := range l {
			for m := range l {
				b := begin(t, 0, with(2, 2, 9, 9), live("k", "older", at(4, 4)), l[i], l[k], l[m])
				if e, _ := b.r.Entry("k"); e != l[i] {
					t.Fatal(told(e), told(l[i]))
				}
			}
		}
	}
}

// Not only what the table has is buried.
func TestOpenBuriesAll(t *testing.T) {
	o := with(2, 4, 3, 5)
	b := begin(t, 0, o, kept("a", at(4, 1), 2), live("a", "back", at(9, 1)), live("b", "1", at(1, 1)), dead("b", at(2, 1), at(2, 1), 1<<1, 0),
		kept("c", at(3, 1), 5), kept("d", at(3, 1), 4), kept("e", at(5, 1), 4), dead("e", at(5, 1), at(6, 0), 1, 1), kept("e", at(4, 11), 0))
	b.sameList("graves", b.r.Graves(), []api.Entry{
		kept("a", at(4, 1), 2), kept("d", at(3, 1), 4), dead("e", at(5, 1), at(6, 0), all, 1),
	})
	b = begin(t, 0, with(2, 4, 0, 0), kept("a", at(4, 1), 0), kept("b", at(5, 1), oldest))
	if len(b.r.Graves()) != 0 {
		t.Fatal("graves without expiry")
	}
}

func TestOpenKnowsTheClockAndOwnKeys(t *testing.T) {
	log := []api.Entry{
		live("a", "1", at(4, 1)), live("b", "2", at(5, 2)), live("b", "3", at(6, 1)), live("c", "4", at(5, 2)), live("a", "5", at(8, 2)),
		dead("d", at(2, 1), at(40, 2), all, 0), dead("e", at(2, 2), at(30, 1), all, 0), live("f", "6", at(39, 0)),
	}
	o := with(3, 5, 0, 0)
	for site, own := range []string{"[f]", "[a b d]", "[a b c e]"} {
		b := begin(t, site, o, log...)
		if got := fmt.Sprint(b.r.Own()); got != own || b.r.Now() != 40 {
			t.Error(site, got, b.r.Now())
		}
		if e, code := b.put("f", "7"); e.Stamp != at(41, site) || code != api.OK {
			t.Error(site, told(e), code)
		}
	}
	b := begin(t, 2, o, kept("a", at(greatest, 0), 0))
	if b.r.Now() != greatest {
		t.Error(b.r.Now())
	}
}

// A journal may have been written with other options.
func TestOpenWithOtherOptions(t *testing.T) {
	log := []api.Entry{kept("a", at(1, 1), 0), kept("b", at(2, 1), 2), kept("c", at(3, 1), 3), kept("d", at(4, 1), 7), kept("e", at(5, 1), oldest), live("f", "v", at(6, 0))}
	for _, t1 := range []int{0, 1, 2, 3, 4, oldest} {
		for _, t2 := range []int{t1, min(2*t1, oldest)} {
			b := begin(t, 1, with(2, 4, t1, t2), log...)
			b.sameList("all are there", b.r.Entries(), log)
			for i := range 4 {
				b.tick()
				b.same(fmt.Sprint("T1 ", t1, ", tick ", i))
			}
		}
	}
}

func TestJournalsOfAnyEntries(t *testing.T) {
	for seed := range 150 {
		r := rand.New(rand.NewSource(int64(seed)))
		o, log := anyOptions(r), []api.Entry(nil)
		o.Nodes = max(o.Nodes, 2)
		o.Quota += 3
		for len(log) < 30 {
			if e := anyEntry(r, &plain{o: o, now: 5}); entry.Check(e) == api.OK {
				log = append(log, e)
			}
		}
		b := begin(t, r.Intn(o.Nodes), o, log...)
		if len(b.r.Entries()) < 5 {
			t.Fatal("too few")
		}
		if _, l, e := journal.Open(b.d); e != api.OK || len(l) != len(log) {
			t.Fatal("the journal is another one: ", len(l), e)
		}
	}
}
