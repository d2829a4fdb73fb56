package replica_test

import (
	"fmt"
	"slices"
	"strings"
	"testing"

	"quidnunc/api"
	"quidnunc/replica"
)

// fill gives entries for whose journal so many bytes are left on a disk. Those behind the ones that are told
// are as new as the first one, which has a key of one byte, so that nothing comes of them.
func fill(left int, log ...api.Entry) []api.Entry {
	const least, greatest = 10 + 19 + 1, 10 + 19 + 1 + 32 // bytes of a record of such a key
	rest := most - left
	for _, e := range log {
		rest -= 10 + 19 + len(e.Key) + len(e.Value)
	}
	filled := slices.Clone(log)
	for rest > 0 {
		size := min(rest, greatest)
		if behind := rest - size; behind > 0 && behind < least {
			size = rest - least
		}
		filled = append(filled, live(log[0].Key, strings.Repeat("f", size-least), log[0].Stamp))
		rest -= size
	}
	return filled
}

// P12.2: Put.

func TestExample(t *testing.T) {
	b := begin(t, 0, with(2, 4, 0, 0))
	e, code := b.put("a", "1")
	if e != live("a", "1", at(1, 0)) || code != api.OK {
		t.Fatal(told(e), code)
	}
	if what, code := b.merge(dead("a", at(9, 1), at(9, 1), 1, 0)); what != replica.Taken || code != api.OK {
		t.Fatal(what, code)
	}
	if e, code := b.put("a", "2"); e != live("a", "2", at(10, 0)) || code != api.OK {
		t.Fatal(told(e), code)
	}
	b.same("example")
}

func TestPut(t *testing.T) {
	for site := range 12 {
		b := begin(t, site, with(12, 12, 0, 0))
		for i, key := range []string{"a", "\x00", "\xff", "0123456789abcdef", strings.Repeat("\xff", 16), "é", "aa", "a\x00", "b"} {
			value := strings.Repeat("v", []int{0, 1, 31, 32}[i%4])
			if e, code := b.put(key, value); e != live(key, value, at(2*i+1, site)) || code != api.OK {
				t.Fatal(told(e), code)
			}
			b.same("behind Put of " + short(key))
			b.put(key, "\x00\xff"+value[:i%4])
			b.same("behind Put once more of " + short(key))
		}
		b.open(site, b.p.o, b.p.log...)
	}
}

func TestTextsThatMayNotBe(t *testing.T) {
	b := begin(t, 1, with(2, 4, 0, 0), live("a", "1", at(1, 1)))
	for _, key := range noKeys {
		for _, value := range append([]string{"", "v", strings.Repeat("v", 32)}, noValues...) {
			if _, code := b.put(key, value); code != api.ErrKey {
				t.Error(short(key), short(value), code)
			}
		}
		if _, code := b.del(key); code != api.ErrKey {
			t.Error(short(key), code)
		}
	}
	for _, value := range noValues {
		for _, key := range []string{"a", "b", strings.Repeat("k", 16)} {
			if _, code := b.put(key, value); code != api.ErrValue {
				t.Error(short(key), short(value), code)
			}
		}
	}
	b.same("wrong texts")
}

// P12.2: the Quota.

func TestTheQuota(t *testing.T) {
	for _, quota := range []int{1, 2, 3, 63, 64} {
		b := begin(t, 0, with(3, quota, 0, 0), live("other", "v", at(1, 1)), kept("other dead", at(2, 1), 0))
		l := row(quota, 0)
		for _, e := range l {
			if _, code := b.put(e.Key, "v"); code != api.OK {
				t.Fatal(quota, e.Key, code)
			}
		}
		for _, key := range []string{"a", "z", "other", "other dead"} { // in the table, or not
			if _, code := b.put(key, "v"); code != api.ErrFull {
				t.Fatal(quota, key, code)
			}
		}
		if _, code := b.del("other"); code != api.ErrFull {
			t.Fatal(quota, code)
		}
		for i := range l {
			if _, code := b.put(l[i].Key, "again"); code != api.OK {
				t.Fatal(quota, i, code)
			}
		}
		if _, code := b.del(l[quota-1].Key); code != api.OK {
			t.Fatal(quota, code)
		}
		if _, code := b.put("more", ""); code != api.ErrFull { // a key that was deleted is an own one
			t.Fatal(quota, code)
		}
		b.same("full")
		b.open(0, b.p.o, b.p.log...)
	}
}

// An own key stays one, whatever comes in, and also when it leaves the table.
func TestOwnKeysStay(t *testing.T) {
	b := begin(t, 0, with(2, 2, 3, 3))
	b.put("a", "1")
	b.put("b", "1")
	b.del("b")
	b.merge(live("a", "2", at(50, 1)))
	for range 3 {
		b.tick()
	}
	b.same("b is gone")
	if len(b.r.Entries()) != 1 || !slices.Equal(b.r.Own(), []string{"a", "b"}) {
		t.Fatal(told(b.r.Entries()...), b.r.Own())
	}
	for _, key := range []string{"a", "b", "c"} {
		if _, code := b.put(key, "3"); code != api.OK && key != "c" || code != api.ErrFull && key == "c" {
			t.Fatal(key, code)
		}
	}
	b.open(0, b.p.o, b.p.log...)
}

// What the site wrote comes back from others when its own disk is another one.
func TestOwnKeysThatComeIn(t *testing.T) {
	b := begin(t, 1, with(3, 2, 0, 0))
	for i, key := range []string{"a", "b", "c"} {
		if what, code := b.merge(live(key, "v", at(10+i, 1))); what != replica.Taken || code != api.OK {
			t.Fatal(what, code)
		}
	}
	b.same("more own keys than the Quota")
	if _, code := b.put("d", ""); code != api.ErrFull {
		t.Fatal(code)
	}
	if e, code := b.put("b", ""); code != api.OK || e.Stamp != at(13, 1) {
		t.Fatal(told(e), code)
	}
	b.merge(live("d", "v", at(20, 2)))
	b.merge(dead("a", at(20, 2), at(21, 1), 1, 0)) // the Act doesn't make it an own key
	b.merge(dead("e", at(20, 2), at(22, 1), 1, 0))
	b.same("others' keys")
	b.open(1, b.p.o, b.p.log...)
}

// Where certificates leave the table there are more own keys than it has room for.
func TestVeryManyOwnKeys(t *testing.T) {
	const size = 1000
	b := begin(t, 0, with(1, 2, 3, 3))
	for i := range size {
		what, _, code := b.r.Merge(left(fmt.Sprintf("k%03d", i), at(1+i, 0), 1))
		if what != replica.Taken || code != api.OK {
			t.Fatal(i, what, code)
		}
		if gone := b.r.Tick(); len(gone) != 1 {
			t.Fatal(i, gone)
		}
	}
	if own := b.r.Own(); len(own) != size || !slices.IsSorted(own) || own[size-1] != "k999" {
		t.Fatal(len(own))
	}
	if _, code := b.r.Put("k", ""); code != api.ErrFull {
		t.Fatal(code)
	}
	if e, code := b.r.Put("k432", ""); code != api.OK || e.Stamp != at(size+1, 0) {
		t.Fatal(told(e), code)
	}
}

// P12.2: room.

func TestAFullTable(t *testing.T) {
	l := []api.Entry{live("b", "1", at(1, 1)), kept("c", at(2, 1), 0), live("d", "1", at(3, 2)), live("e", "1", at(4, 5))}
	b := begin(t, 0, with(2, 2, 0, 0), l...)
	for _, key := range []string{"a", "bb", "f"} {
		if _, code := b.put(key, "v"); code != api.ErrFull {
			t.Fatal(key, code)
		}
		if what, code := b.merge(live(key, "v", at(9, 1))); what != replica.Old || code != api.ErrFull {
			t.Fatal(key, what, code)
		}
		if what, code := b.merge(kept(key, at(9, 1), 0)); what != replica.Old || code != api.ErrFull {
			t.Fatal(key, what, code)
		}
	}
	b.same("full")
	if _, code := b.put("c", "v"); code != api.OK {
		t.Fatal(code)
	}
	if _, code := b.del("e"); code != api.OK {
		t.Fatal(code)
	}
	if what, code := b.merge(live("b", "v", at(30, 1))); what != replica.Taken || code != api.OK {
		t.Fatal(what, code)
	}
	b.open(0, b.p.o, b.p.log...)
}

func TestRoomThatBecomesFree(t *testing.T) {
	b := begin(t, 0, with(1, 2, 2, 2), kept("a", at(1, 1), 0), live("b", "1", at(2, 1)))
	b.tick()
	if _, code := b.put("c", ""); code != api.ErrFull {
		t.Fatal(code)
	}
	b.tick()
	if _, code := b.put("c", ""); code != api.OK {
		t.Fatal(code)
	}
	b.same("c for a")
}

// P12.2: Delete.

func TestDelete(t *testing.T) {
	for nodes := 1; nodes <= 12; nodes++ {
		for site := range nodes {
			for retain := 1; retain <= nodes; retain++ {
				o := replica.Options{Nodes: nodes, Quota: 2, Retain: retain, T1: 5, T2: 9}
				b := begin(t, site, o, live("a", "1", at(7, 11)))
				want := 0
				for i := range retain {
					want |= 1 << ((site + i) % nodes)
				}
				e, code := b.del("a")
				if e != dead("a", at(8, site), at(8, site), want, 0) || code != api.OK {
					t.Fatal(o, site, told(e), code)
				}
				b.sameList("the site itself keeps it", b.r.Graves(), []api.Entry{e})
			}
		}
	}
}

func TestDeleteWhatIsNotLive(t *testing.T) {
	b := begin(t, 0, with(2, 4, 4, 4), live("a", "", at(1, 0)), kept("b", at(2, 1), 0))
	for _, key := range []string{"c", "b", "aa", "\x00", strings.Repeat("k", 16)} {
		if _, code := b.del(key); code != api.ErrNone {
			t.Fatal(key, code)
		}
	}
	if _, code := b.del("a"); code != api.OK { // the empty value is one
		t.Fatal(code)
	}
	if _, code := b.del("a"); code != api.ErrNone {
		t.Fatal(code)
	}
	b.put("a", "back")
	if e, code := b.del("a"); code != api.OK || e.Stamp != at(5, 0) {
		t.Fatal(told(e), code)
	}
	for range 4 {
		b.tick()
	}
	if _, code := b.del("a"); code != api.ErrNone { // only a grave is left
		t.Fatal(code)
	}
	b.same("deleted")
}

// A certificate is what is told of a key, not what was there.
func TestOthersKeysMayBeWritten(t *testing.T) {
	b := begin(t, 3, with(4, 3, 0, 0), live("a", "1", at(5, 0)), live("b", "1", at(6, 1)), kept("c", at(7, 2), 0))
	b.put("a", "2")
	b.del("b")
	b.put("c", "2")
	b.same("written")
	if !slices.Equal(b.r.Own(), []string{"a", "b", "c"}) {
		t.Fatal(b.r.Own())
	}
	if _, code := b.put("d", ""); code != api.ErrFull {
		t.Fatal(code)
	}
}

// P12.2: the clock.

func TestAClockThatIsSpent(t *testing.T) {
	b := begin(t, 1, with(2, 4, 0, 0), live("a", "1", at(greatest-2, 0)))
	if e, code := b.put("a", "2"); e.Stamp != at(greatest-1, 1) || code != api.OK {
		t.Fatal(told(e), code)
	}
	if e, code := b.del("a"); e.Stamp != at(greatest, 1) || code != api.OK {
		t.Fatal(told(e), code)
	}
	b.merge(live("b", "1", at(3, 0)))
	for range 3 {
		if _, code := b.put("a", "3"); code != api.ErrSpent {
			t.Fatal(code)
		}
		if _, code := b.put("c", "3"); code != api.ErrSpent {
			t.Fatal(code)
		}
		if _, code := b.del("b"); code != api.ErrSpent {
			t.Fatal(code)
		}
	}
	b.same("spent")
	b.open(1, b.p.o, b.p.log...)
	if _, code := b.put("a", "3"); code != api.ErrSpent {
		t.Fatal(code)
	}
	if what, code := b.merge(live("c", "3", at(5, 0))); what != replica.Taken || code != api.OK { // needs no stamp
		t.Fatal(what, code)
	}
}

// The order in which P12.2 names its errors: every case of each of them with every case of the others.

// state is a replica's, in which calls have errors.
type state struct {
	quota, room, spent bool      // all of it is used up
	disk               api.Errno // what the journal tells of the next entry
}

// log gives a journal of which such a state of the site 0 of 2 comes, if the Quota is 3.
func (s state) log() []api.Entry {
	l := []api.Entry{live("o", "own", at(1, 0)), live("x", "other's", at(2, 1)), kept("p", at(3, 0), 0), kept("y", at(4, 1), 0)}
	if s.quota {
		l = append(l, live("q", "own", at(5, 0)))
	}
	for i := 1; s.room && len(l) < 6; i++ {
		l = append(l, live(fmt.Sprint("z", i), "other's", at(6, i)))
	}
	if s.spent {
		l = append(l, live("x", "latest", at(greatest, 1)))
	}
	if s.disk == api.ErrFull {
		l = fill(29, l...)
	}
	return l
}

func (s state) begin(t *testing.T) *both {
	t.Helper()
	b := begin(t, 0, with(2, 3, 0, 0), s.log()...)
	if s.disk == api.ErrPower {
		b.d.Fuse(0)
	}
	b.p.disk = s.disk
	return b
}

func states() []state {
	var l []state
	for i := range 8 {
		for _, e := range []api.Errno{api.OK, api.ErrPower, api.ErrFull} {
			l = append(l, state{i&1 > 0, i&2 > 0, i&4 > 0, e})
		}
	}
	return l
}

func TestTheOrderOfPutsAndDeletesErrors(t *testing.T) {
	met := map[string]int{}
	for _, s := range states() {
		b := s.begin(t)
		one := func(call string, make func() (api.Entry, api.Errno)) {
			before := bytesOf(t, b.d)
			_, code := make()
			met[fmt.Sprint(call, code)]++
			if b.d.On() == (code == api.ErrPower) {
				t.Fatal(s, call, code, b.d.On())
			}
			if code != api.OK && code != api.ErrPower {
				b.same(call)
				if !slices.Equal(bytesOf(t, b.d), before) {
					t.Fatal(s, call, "the disk is changed")
				}
			} else {
				b = s.begin(t)
			}
		}
		for _, key := range []string{"", strings.Repeat("k", 17), "o", "p", "x", "y", "new"} {
			for _, value := range []string{"", strings.Repeat("v", 32), strings.Repeat("v", 33)} {
				one("Put", func() (api.Entry, api.Errno) { return b.put(key, value) })
			}
			one("Delete", func() (api.Entry, api.Errno) { return b.del(key) })
		}
	}
	for _, call := range []string{"Put0", "Put9", "Put10", "Put7", "Put8", "Put11", "Delete0", "Delete9", "Delete3", "Delete7", "Delete8", "Delete11"} {
		if met[call] == 0 {
			t.Error("not met: ", call)
		}
	}
}

// Some of these once more, with what is to be told written out.
func TestTheOrderOfErrorsByHand(t *testing.T) {
	long := strings.Repeat("v", 33)
	for i, c := range []struct {
		s          state
		key, value string
		put, del   api.Errno
	}{
		{state{true, true, true, api.ErrPower}, "", long, api.ErrKey, api.ErrKey},
		{state{true, true, true, api.ErrPower}, "new", long, api.ErrValue, api.ErrNone},
		{state{true, true, true, api.ErrPower}, "new", "v", api.ErrFull, api.ErrNone},
		{state{true, false, true, api.ErrPower}, "x", "v", api.ErrFull, api.ErrFull},
		{state{true, false, true, api.ErrPower}, "y", "v", api.ErrFull, api.ErrNone},
		{state{false, true, true, api.ErrPower}, "new", "v", api.ErrFull, api.ErrNone},
		{state{false, true, true, api.ErrPower}, "x", "v", api.ErrSpent, api.ErrSpent},
		{state{true, true, true, api.ErrPower}, "o", "v", api.ErrSpent, api.ErrSpent},
		{state{true, true, true, api.ErrPower}, "p", "v", api.ErrSpent, api.ErrNone},
		{state{true, true, true, api.ErrFull}, "o", "v", api.ErrSpent, api.ErrSpent},
		{state{true, true, false, api.ErrFull}, "o", "v", api.ErrFull, api.ErrFull},
		{state{true, true, false, api.ErrPower}, "o", "v", api.ErrPower, api.ErrPower},
		{state{true, true, false, api.OK}, "o", "v", api.OK, api.OK},
		{state{false, false, false, api.ErrPower}, "new", "v", api.ErrPower, api.ErrNone},
		{state{false, false, false, api.OK}, "new", "v", api.OK, api.ErrNone},
	} {
		if _, code := c.s.begin(t).put(c.key, c.value); code != c.put {
			t.Error("case ", i, ": Put ", code)
		}
		if _, code := c.s.begin(t).del(c.key); code != c.del {
			t.Error("case ", i, ": Delete ", code)
		}
	}
}
