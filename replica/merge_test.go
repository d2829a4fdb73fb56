package replica_test

import (
	"bytes"
	"fmt"
	"math"
	"math/rand"
	"slices"
	"strings"
	"testing"

	"quidnunc/api"
	"quidnunc/replica"
)

// becomes fails the test where something else becomes of an entry that comes in.
func (b *both) becomes(e api.Entry, want int) {
	b.Helper()
	if what, code := b.merge(e); what != want || code != api.OK {
		b.Fatalf("Merge of %s: %d, error %d, want %d", told(e), what, code, want)
	}
	b.same("behind Merge of " + told(e))
}

// has fails the test where the table has something else of an entry's key.
func (b *both) has(want api.Entry) {
	b.Helper()
	if e, ok := b.r.Entry(want.Key); e != want || !ok {
		b.Fatalf("%s, want %s", told(e), told(want))
	}
}

func TestWhatBecomesOfEntries(t *testing.T) {
	if replica.Old != 0 || replica.Taken != 1 || replica.Woken != 2 {
		t.Fatal(replica.Old, replica.Taken, replica.Woken)
	}
}

// P12.3: newer, as new, older.

func TestMergeOfNewAndOld(t *testing.T) {
	for _, t1 := range []int{0, 9} {
		for i, e := range versions {
			for k, f := range versions {
				b := begin(t, 5, with(6, 2, t1, t1))
				b.becomes(e, replica.Taken)
				want := replica.Old
				if k > i {
					want = replica.Taken
				}
				b.becomes(f, want)
				b.becomes(f, replica.Old)
				b.becomes(versions[max(i, k)], replica.Old)
				b.open(5, b.p.o, b.p.log...)
			}
		}
	}
}

// Of several that are as new as one another the first one stays.
func TestMergeOfWhatIsAsNew(t *testing.T) {
	s := at(7, 2)
	l := []api.Entry{live("k", "one", s), live("k", "", s), dead("k", s, s, 1, 0), dead("k", s, s, 2, 0)}
	for _, e := range l {
		for _, f := range l {
			b := begin(t, 0, with(3, 2, 0, 0), e)
			b.becomes(f, replica.Old)
			b.has(e)
		}
	}
}

func TestMergeSeesTheAct(t *testing.T) {
	b := begin(t, 0, with(2, 2, 3, 3), live("a", "1", at(20, 1)))
	b.becomes(live("b", "1", at(30, 1)), replica.Taken)
	b.becomes(live("a", "0", at(19, 1)), replica.Old)
	if b.r.Now() != 30 {
		t.Fatal(b.r.Now())
	}
	b.becomes(dead("a", at(5, 1), at(40, 0), 1, 0), replica.Old) // older by its Stamp
	b.becomes(dead("a", at(25, 1), at(50, 0), 1, 2), replica.Old)
	b.becomes(dead("c", at(25, 1), at(60, 0), 1, 2), replica.Old)
	if b.r.Now() != 60 {
		t.Fatal(b.r.Now())
	}
	b.merge(live("c", "", at(70, 5)))
	b.merge(live("d", "", at(80, 5)))
	b.merge(live("full", "", at(90, 5)))
	b.merge(live("full", "", at(85, 5)))
	if b.r.Now() != 90 {
		t.Fatal(b.r.Now())
	}
	if e, code := b.put("a", "2"); e.Stamp != at(91, 0) || code != api.OK {
		t.Fatal(told(e), code)
	}
}

// P12.3: entries that may not be.

func TestMergeOfWhatMayNotBe(t *testing.T) {
	b := begin(t, 1, with(3, 2, 5, 9), live("a", "1", at(5, 0)), kept("b", at(6, 1), 1))
	bad := func(want api.Errno, e api.Entry) {
		t.Helper()
		now := b.r.Now()
		if what, code := b.merge(e); what != replica.Old || code != want || b.r.Now() != now {
			t.Errorf("%s: %d, error %d, want %d; now %d", told(e), what, code, want, b.r.Now())
		}
		b.same("behind " + told(e))
	}
	late := at(90, 0)
	for _, key := range noKeys {
		bad(api.ErrKey, live(key, "v", late))
		bad(api.ErrKey, kept(key, late, 0))
		bad(api.ErrKey, live(key, noValues[0], at(0, 0)))
	}
	for _, key := range []string{"a", "b", "c"} {
		for _, value := range noValues {
			bad(api.ErrValue, live(key, value, late))
		}
		e := kept(key, late, 0)
		e.Value = "v"
		bad(api.ErrValue, e)
		for _, s := range []api.Stamp{{}, at(-1, 0), at(greatest+1, 0), at(math.MaxInt, 0), at(90, -1), at(90, 12), at(90, math.MinInt)} {
			bad(api.ErrArg, live(key, "v", s))
			bad(api.ErrArg, dead(key, s, late, all, 0))
			bad(api.ErrArg, dead(key, late, s, all, 0))
		}
		bad(api.ErrArg, dead(key, late, at(89, 11), all, 0))
		for _, keepers := range []int{math.MinInt, -1, 0, 4096, 8191, math.MaxInt} {
			bad(api.ErrArg, dead(key, late, late, keepers, 0))
		}
		for _, age := range []int{math.MinInt, -1, oldest + 1, 1 << 32, math.MaxInt} {
			bad(api.ErrArg, kept(key, late, age))
		}
		bad(api.ErrArg, api.Entry{Key: key, Stamp: late, Act: at(91, 0)})
		bad(api.ErrArg, api.Entry{Key: key, Stamp: late, Act: late, Age: 1})
		bad(api.ErrArg, api.Entry{Key: key, Stamp: late, Act: late, Keepers: 1})
	}
	bad(api.ErrKey, api.Entry{})
}

func TestMergeOfTheEdgesOfWhatMayBe(t *testing.T) {
	b := begin(t, 0, with(12, 2, 0, 0))
	for _, e := range []api.Entry{
		live("a", "", at(1, 0)), live(strings.Repeat("k", 16), strings.Repeat("v", 32), at(1, 11)), kept("\x00", at(1, 11), oldest),
		dead("b", at(1, 0), at(greatest, 11), all, 0), dead(strings.Repeat("\xff", 16), at(greatest, 11), at(greatest, 11), 1, oldest),
	} {
		b.becomes(e, replica.Taken)
		b.becomes(e, replica.Old)
	}
	b.open(0, b.p.o, b.p.log...)
}

// P12.3: ages.

// Without expiry all certificates are 0 ticks old when they come in.
func TestAgesWithoutExpiry(t *testing.T) {
	for _, age := range []int{0, 1, 7, oldest - 1, oldest} {
		b := begin(t, 0, with(2, 4, 0, 0), kept("b", at(5, 1), 9), kept("c", at(5, 1), 9))
		b.becomes(kept("a", at(9, 1), age), replica.Taken)
		b.has(kept("a", at(9, 1), 0))
		b.becomes(kept("b", at(4, 1), age), replica.Old) // the one that is there was written with expiry
		b.has(kept("b", at(5, 1), 0))
		b.becomes(kept("c", at(6, 1), age), replica.Taken)
		b.has(kept("c", at(6, 1), 0))
		if len(b.r.Graves()) != 0 {
			t.Fatal("a grave")
		}
		b.open(0, b.p.o, b.p.log...)
	}
}

func TestAgesOfWhatComesIn(t *testing.T) {
	for _, t1 := range []int{1, 2, 3, 10, oldest} {
		for _, age := range []int{0, 1, 2, t1 - 3, t1 - 2, t1 - 1, t1, t1 + 1, oldest - 2, oldest - 1, oldest} {
			if age < 0 || age > oldest {
				continue
			}
			for _, log := range [][]api.Entry{nil, {live("k", "v", at(3, 1))}, {kept("other", at(9, 1), 0)}} {
				b := begin(t, 0, with(2, 4, t1, t1), log...)
				if e := kept("k", at(5, 1), age); age+1 >= t1 {
					b.becomes(e, replica.Old)
				} else {
					b.becomes(e, replica.Taken)
					b.has(kept("k", at(5, 1), age+1))
				}
				b.open(0, b.p.o, b.p.log...)
			}
		}
	}
}

// A certificate beside a certificate: of both the lesser age, one tick more of that which comes in.
func TestACertificateBesideACertificate(t *testing.T) {
	for _, was := range []int{0, 1, 4, 5, 8, 20} { // the last one was written with another T1
		for age := range 12 {
			for i, s := range []api.Stamp{at(4, 9), at(5, 4), at(5, 5), at(5, 6), at(6, 0)} {
				there := dead("k", at(5, 5), at(5, 5), 1<<4, was)
				b := begin(t, 0, with(2, 4, 9, 9), there)
				e, want := dead("k", s, s, 1<<3, age), min(was, age+1)
				switch {
				case i < 3:
					b.becomes(e, replica.Old)
					there.Age = want
				case age+1 >= 9:
					b.becomes(e, replica.Old)
				default:
					b.becomes(e, replica.Taken)
					there, there.Age = e, want
				}
				b.has(there)
				b.open(0, b.p.o, b.p.log...) // an age that became less is none that was set down
			}
		}
	}
}

// Where one of both is live no age is another one.
func TestACertificateBesideALiveEntry(t *testing.T) {
	b := begin(t, 0, with(2, 4, 9, 9), live("a", "v", at(5, 1)), kept("b", at(5, 1), 6))
	b.becomes(kept("a", at(4, 1), 3), replica.Old)
	b.has(live("a", "v", at(5, 1)))
	b.becomes(live("b", "v", at(4, 1)), replica.Old)
	b.has(kept("b", at(5, 1), 6))
	b.becomes(kept("a", at(6, 1), 7), replica.Taken)
	b.has(kept("a", at(6, 1), 8))
}

// What comes in is buried if it has to be kept; what is Old isn't.
func TestMergeBuries(t *testing.T) {
	b := begin(t, 1, with(3, 4, 5, 8))
	b.becomes(dead("a", at(5, 0), at(5, 0), 1<<1, 2), replica.Taken)
	b.becomes(dead("b", at(5, 0), at(5, 0), 1<<0|1<<2, 2), replica.Taken)
	b.becomes(dead("c", at(5, 0), at(5, 0), 1<<1, 4), replica.Old)
	b.sameList("graves", b.r.Graves(), []api.Entry{dead("a", at(5, 0), at(5, 0), 1<<1, 3)})
	b.becomes(dead("a", at(5, 0), at(6, 2), 1<<1, 1), replica.Taken) // woken elsewhere
	b.becomes(kept("b", at(4, 0), 0), replica.Old)
	b.sameList("graves", b.r.Graves(), []api.Entry{dead("a", at(5, 0), at(6, 2), 1<<1, 2)})
}

// P12.3: a grave that is over what comes in.

// buried gives a site's replica, with T1 3 and T2 7, of which a certificate of k left the table, but not the graves.
func buried(t *testing.T, site int, log ...api.Entry) *both {
	t.Helper()
	b := begin(t, site, with(4, 2, 3, 7), append(log, dead("k", at(50, 1), at(52, 2), all, 1))...)
	b.tick()
	if gone := b.tick(); !slices.Equal(gone, []string{"k"}) || len(b.r.Graves()) != 1 {
		t.Fatal(gone, told(b.r.Graves()...))
	}
	return b
}

func TestWake(t *testing.T) {
	for site := range 4 {
		for _, e := range []api.Entry{live("k", "v", at(49, 11)), live("k", "v", at(50, 0)), kept("k", at(1, 0), 0), dead("k", at(49, 0), at(70, 3), 1, 1)} {
			b := buried(t, site)
			b.becomes(e, replica.Woken)
			woken := dead("k", at(50, 1), at(max(52, e.Act.Counter)+1, site), all, 0)
			b.has(woken)
			b.sameList("graves", b.r.Graves(), []api.Entry{woken})
			if own := b.r.Own(); len(own) > 0 != (site == 1) {
				t.Fatal(site, own)
			}
			b.becomes(e, replica.Old)
			for i := range 7 {
				b.tick()
				b.same(fmt.Sprint("tick ", i))
			}
			if len(b.r.Graves())+len(b.r.Entries()) > 0 {
				t.Fatal("not gone")
			}
			b.becomes(live("k", "v", at(1, 0)), replica.Taken) // nothing is known of it any more
			b.open(site, b.p.o, b.p.log...)
		}
	}
}

// What isn't earlier than the grave is taken, and the grave stays till it is too old.
func TestAGraveThatIsNotOver(t *testing.T) {
	for _, e := range []api.Entry{
		live("k", "v", at(50, 1)), live("k", "v", at(50, 2)), live("k", "v", at(51, 0)), kept("k", at(50, 1), 0),
		dead("k", at(50, 1), at(99, 0), 1, 0), kept("k", at(51, 0), 1),
	} {
		b := buried(t, 2)
		b.becomes(e, replica.Taken)
		if len(b.r.Graves()) != 1 {
			t.Fatal(told(e))
		}
		for range 7 {
			b.tick()
			b.same("behind " + told(e))
		}
		b.open(2, b.p.o, b.p.log...)
	}
}

// A site that didn't keep the certificate knows nothing of it.
func TestWithoutAGrave(t *testing.T) {
	b := begin(t, 2, with(4, 2, 3, 7), dead("k", at(50, 1), at(52, 2), 1|1<<1|1<<3, 1))
	b.tick()
	b.tick()
	b.becomes(live("k", "v", at(49, 0)), replica.Taken)
}

func TestTooOldToWake(t *testing.T) {
	b := buried(t, 0)
	b.becomes(kept("k", at(40, 0), 2), replica.Old)
	b.becomes(kept("k", at(60, 0), 2), replica.Old)
	b.becomes(kept("k", at(40, 0), 1), replica.Woken)
}

// A put behind a delete is later than its grave, whose counter was seen.
func TestPutOverAGrave(t *testing.T) {
	b := buried(t, 0)
	if e, code := b.put("k", "back"); code != api.OK || e.Stamp != at(53, 0) {
		t.Fatal(told(e), code)
	}
	b.becomes(live("k", "obsolete", at(49, 0)), replica.Old)
	b.del("k")
	b.same("deleted once more")
	b.open(0, b.p.o, b.p.log...)
}

// The order in which P12.3 names what becomes of an entry.

// mergeState is a replica's, in which entries of k come in.
type mergeState struct {
	t1          int
	there       []api.Entry // of k, in the journal
	ticks       int
	room, spent bool // all of it is used up
	disk        api.Errno
}

// begin gives a replica in such a state, of the site 0 of 2, that has room for four keys.
func (s mergeState) begin(t *testing.T) *both {
	t.Helper()
	log := append([]api.Entry{live("o", "own", at(1, 0)), live("x", "other's", at(2, 1))}, s.there...)
	if s.room {
		log = append(log, live("y", "other's", at(3, 2)))
	}
	if s.room && len(s.there) == 0 {
		log = append(log, live("z", "other's", at(4, 3)))
	}
	if s.spent {
		log = append(log, live("x", "latest", at(greatest, 1)))
	}
	if s.disk == api.ErrFull {
		log = fill(29, log...)
	}
	b := begin(t, 0, with(2, 2, s.t1, 3*s.t1), log...)
	for range s.ticks {
		b.tick()
	}
	if s.room && s.ticks > 0 {
		b.merge(live("z", "other's", at(4, 3))) // in the place of k, which left
	}
	if s.disk == api.ErrPower {
		b.d.Fuse(0)
	}
	b.p.disk = s.disk
	b.same(fmt.Sprint(s))
	return b
}

// keyStates are what there may be of k, where T1 is 3.
func keyStates() []mergeState {
	return []mergeState{
		{there: nil},
		{there: []api.Entry{live("k", "v", at(50, 1))}},
		{there: []api.Entry{dead("k", at(50, 1), at(52, 0), 1<<3, 1)}},
		{there: []api.Entry{dead("k", at(50, 1), at(52, 0), 1<<0, 1)}},
		{there: []api.Entry{dead("k", at(50, 1), at(52, 0), 1<<0, 1)}, ticks: 2}, // only a grave
	}
}

// coming gives entries of k: of all kinds, and some that may not be.
func coming() []api.Entry {
	var l []api.Entry
	for _, s := range []api.Stamp{at(49, 0), at(50, 0), at(50, 1), at(50, 2), at(51, 0)} {
		l = append(l, live("k", "new", s))
		for _, act := range []api.Stamp{s, at(52, 0), at(53, 5)} {
			for _, age := range []int{0, 1, 2, 3, oldest} {
				l = append(l, dead("k", s, act, 1<<0, age))
			}
		}
	}
	l = append(l, live("k", "new", at(0, 0)), live("k", strings.Repeat("v", 33), at(49, 0)), dead("k", at(49, 0), at(48, 0), 1, 0), live("", "new", at(51, 0)))
	return append(l, live("k", "last", at(greatest, 1)))
}

func TestTheOrderOfMergesErrors(t *testing.T) {
	met := map[string]int{}
	for i := range 5 * 2 * 2 * 2 * 2 {
		s := keyStates()[i%5]
		s.room, s.spent, s.t1 = i/5%2 == 1, i/10%2 == 1, 3*(i/20%2)
		if i/40 == 1 {
			s.disk = api.ErrPower
		}
		if s.t1 == 0 {
			s.ticks = 0
		}
		for _, e := range coming() {
			oneMerge(t, s.begin(t), e, met)
		}
	}
	for _, key := range []string{"0 0", "1 0", "2 0", "0 9", "0 10", "0 1", "0 7", "0 8", "0 11"} {
		if met[key] == 0 {
			t.Error("not met: ", key)
		}
	}
}

// oneMerge makes a call, and fails the test where an error but ErrPower changes anything but the clock.
func oneMerge(t *testing.T, b *both, e api.Entry, met map[string]int) {
	t.Helper()
	before := bytesOf(t, b.d)
	what, code := b.merge(e)
	met[fmt.Sprint(what, code)]++
	if b.d.On() == (code == api.ErrPower) {
		t.Fatal(told(e), what, code, b.d.On())
	}
	if code == api.ErrPower {
		return
	}
	b.same("behind " + told(e))
	if what == replica.Old && !bytes.Equal(bytesOf(t, b.d), before) {
		t.Fatal(told(e), "the disk is changed")
	}
}

// Likewise on a disk without room, where no entry is set down.
func TestMergesOnAFullDisk(t *testing.T) {
	met := map[string]int{}
	for i, s := range keyStates() {
		s.t1, s.spent, s.disk = 3, i%2 == 0, api.ErrFull
		b := s.begin(t)
		for k, e := range coming() {
			if k%3 == 0 || len(s.there) == 0 {
				oneMerge(t, b, e, met)
			}
		}
	}
	if met["0 7"] == 0 || met["0 8"] == 0 || met["0 0"] == 0 || met["1 0"]+met["2 0"] > 0 {
		t.Error(met)
	}
}

// Some of these once more, with what is to be told written out.
func TestTheOrderOfMergesByHand(t *testing.T) {
	grave := keyStates()[4]
	state := func(s mergeState, room, spent bool, disk api.Errno) mergeState {
		s.t1, s.room, s.spent, s.disk = 3, room, spent, disk
		return s
	}
	for i, c := range []struct {
		s    mergeState
		e    api.Entry
		what int
		code api.Errno
	}{
		{state(grave, true, true, api.ErrPower), live("", "v", at(49, 0)), replica.Old, api.ErrKey},
		{state(keyStates()[3], true, true, api.ErrPower), kept("k", at(49, 0), 2), replica.Old, api.OK},
		{state(grave, true, true, api.ErrPower), kept("k", at(49, 0), 2), replica.Old, api.OK},
		{state(grave, true, true, api.ErrPower), kept("k", at(49, 0), 1), replica.Old, api.ErrFull},
		{state(grave, true, true, api.ErrPower), live("k", "v", at(49, 0)), replica.Old, api.ErrFull},
		{state(grave, false, true, api.ErrPower), live("k", "v", at(49, 0)), replica.Old, api.ErrSpent},
		{state(grave, false, true, api.ErrPower), live("k", "v", at(50, 1)), replica.Old, api.ErrPower},
		{state(grave, false, false, api.ErrPower), live("k", "v", at(49, 0)), replica.Old, api.ErrPower},
		{state(grave, false, false, api.OK), live("k", "v", at(49, 0)), replica.Woken, api.OK},
		{state(grave, false, true, api.OK), live("k", "v", at(50, 1)), replica.Taken, api.OK},
		{state(keyStates()[1], true, true, api.ErrPower), live("k", "v", at(50, 1)), replica.Old, api.OK},
		{state(keyStates()[1], true, true, api.ErrPower), live("k", "v", at(50, 2)), replica.Old, api.ErrPower},
		{state(keyStates()[1], true, true, api.OK), live("k", "v", at(50, 2)), replica.Taken, api.OK},
	} {
		b := c.s.begin(t)
		if what, code := b.merge(c.e); what != c.what || code != c.code {
			t.Error("case ", i, ": ", what, code)
		}
	}
}

// P12.4.

func TestTicksWithoutExpiry(t *testing.T) {
	b := begin(t, 0, with(2, 4, 0, 0), kept("a", at(1, 1), 5), kept("b", at(2, 0), 0), live("c", "v", at(3, 1)), kept("d", at(4, 0), oldest))
	for range 5 {
		if gone := b.tick(); len(gone) > 0 {
			t.Fatal(gone)
		}
		b.same("behind a tick")
	}
}

func TestTicks(t *testing.T) {
	b := begin(t, 0, with(2, 8, 4, 6), kept("d", at(1, 1), 1), left("c", at(2, 1), 0), live("e", "v", at(3, 1)),
		kept("b", at(4, 1), 1), kept("a", at(5, 0), 3), left("f", at(6, 1), 4), kept("g", at(7, 1), 3))
	for i, want := range []string{"[a f g] 3 4", "[] 3 4", "[b d] 1 2", "[c] 0 2", "[] 0 0", "[] 0 0"} {
		gone := b.tick()
		dead := slices.DeleteFunc(b.r.Entries(), func(e api.Entry) bool { return !e.Dead })
		if got := fmt.Sprint(gone, len(dead), len(b.r.Graves())); got != want {
			t.Fatal(i, got, want)
		}
		b.same(fmt.Sprint("tick ", i))
	}
	b.has(live("e", "v", at(3, 1)))
	b.open(0, b.p.o, b.p.log...) // ticks aren't set down
}

func TestATickAtWhichAllLeave(t *testing.T) {
	for _, t1 := range []int{1, 2, 100} {
		var l []api.Entry
		for i, e := range row(64, 1) {
			l = append(l, kept(e.Key, at(1+i, i%3), t1-1))
		}
		b := begin(t, 0, with(1, 64, t1, t1), mixed(rand.New(rand.NewSource(2)), l)...)
		if gone := b.tick(); len(gone) != 64 || b.r.Sum() != 0 || len(b.r.Graves()) != 0 {
			t.Fatal(len(gone), b.r.Sum())
		}
		b.same("all left")
		if gone := b.tick(); len(gone) > 0 {
			t.Fatal(gone)
		}
	}
}

// The greatest times there are.
func TestTheLongestTimes(t *testing.T) {
	b := begin(t, 0, with(2, 4, oldest, oldest), kept("a", at(1, 1), oldest), kept("b", at(2, 1), oldest-1), kept("c", at(3, 1), oldest-2), kept("d", at(4, 1), 0))
	b.becomes(kept("d", at(5, 1), oldest-1), replica.Old)
	if what, _, code := b.r.Merge(kept("d", at(4, 1), oldest)); what != replica.Old || code != api.OK {
		t.Fatal(what, code)
	}
	b.has(kept("d", at(4, 1), 0))
	for i, want := range []string{"[a b]", "[c]", "[]"} {
		if gone := fmt.Sprint(b.tick()); gone != want {
			t.Fatal(i, gone)
		}
		b.same("behind a tick")
	}
}
