package replica_test

import (
	"bytes"
	"fmt"
	"math/rand"
	"strings"
	"testing"

	"quidnunc/api"
	"quidnunc/disk"
	"quidnunc/entry"
	"quidnunc/replica"
)

// P12.6.

// A disk's ErrFull changes nothing: what needs less room still finds it.
func TestADiskThatIsFull(t *testing.T) {
	const least = 10 + 19 + 1 // bytes of a record of a key of one byte
	log := []api.Entry{live("a", "first", at(5, 1)), live("b", "1", at(6, 1)), dead("k", at(50, 1), at(50, 1), all, 1)}
	for _, left := range []int{0, 1, least - 1, least, least + 31, 2*least + 9} {
		b := begin(t, 0, with(2, 4, 3, 9), fill(left, log...)...)
		if b.d.Len() != most-left {
			t.Fatal(b.d.Len(), left)
		}
		b.tick()
		b.tick()
		// Whether there is room for a record so long the plain replica doesn't know: it is told.
		full := func(size int) {
			b.p.disk = api.OK
			if b.d.Len()+size > most {
				b.p.disk = api.ErrFull
			}
		}
		for _, size := range []int{32, 31, 10, 9, 8, 0} {
			value := strings.Repeat("v", size)
			full(least + size)
			b.put("a", value)
			b.same("behind Put")
			full(least + size)
			b.merge(live("b", value, at(200-size, 1)))
			b.same("behind Merge")
		}
		full(least)
		b.del("b")
		full(least)
		b.merge(live("k", "v", at(49, 1)))
		b.same("behind all")
		b.tick()
		b.same("behind a tick")
		b.open(0, b.p.o, b.p.log...)
	}
}

// Behind ErrPower nothing is promised of the replica, but that none of its calls panics.
func TestNoCallPanicsWithoutPower(t *testing.T) {
	for _, fuse := range []int{0, 1} {
		b := begin(t, 0, with(2, 12, 3, 5), several()...)
		b.d.Fuse(fuse)
		if _, code := b.r.Put("a", "v"); code != api.ErrPower {
			t.Fatal(code)
		}
		for range 3 {
			b.r.Put("b", "v")
			b.r.Delete("a")
			b.r.Merge(live("a", "v", at(99, 1)))
			b.r.Merge(kept("k", at(99, 1), 1))
			b.r.Tick()
			b.r.Entry("a")
			b.r.Get("a")
			b.r.Scan("", 9)
			b.r.Below(api.Mark{}, 9)
			_ = fmt.Sprint(b.r.Entries(), b.r.Graves(), b.r.Own(), b.r.Sum(), b.r.Now(), b.r.Site())
			b.d.Crash(0)
		}
	}
}

// P12.7.

// newest gives the newest entry of each key, by keys.
func newest(l []api.Entry) []api.Entry {
	m := map[string]api.Entry{}
	for _, e := range l {
		if was, there := m[e.Key]; !there || newer(e, was) {
			m[e.Key] = e
		}
	}
	return rising(m)
}

// unlike gives entries of which no two are as new as one another.
func unlike(r *rand.Rand, size int) []api.Entry {
	var l []api.Entry
	met := map[string]bool{}
	for len(l) < size {
		e := anyEntry(r, &plain{now: 6})
		e.Age = 0
		name := fmt.Sprint(e.Key, e.Stamp, e.Act)
		if entry.Check(e) == api.OK && !met[name] {
			met[name] = true
			l = append(l, e)
		}
	}
	return l
}

func TestTheNewest(t *testing.T) {
	for seed := range 100 {
		r := rand.New(rand.NewSource(int64(seed)))
		l := unlike(r, 60)
		want := newest(l)
		var sum uint64
		for i := range 6 {
			b := begin(t, r.Intn(3), with(3, 3, 0, 0))
			in := mixed(r, l)
			for _, e := range append(in, mixed(r, l)[:20]...) { // some come more than once
				b.merge(e)
			}
			b.same("all came in")
			b.sameList(fmt.Sprint("seed ", seed, ", order ", i), b.r.Entries(), want)
			if i > 0 && b.r.Sum() != sum {
				t.Fatal(seed, i, b.r.Sum(), sum)
			}
			sum = b.r.Sum()
		}
	}
}

// Also amid what is written here, crashes, and keys that find no room.
func TestTheNewestAmidWrites(t *testing.T) {
	for seed := range 150 {
		r := rand.New(rand.NewSource(int64(seed)))
		b := begin(t, 1, with(2, 2, 0, 0))
		var all []api.Entry
		for _, e := range unlike(r, 60) {
			switch r.Intn(6) {
			case 0:
				if e, code := b.put(e.Key, e.Value); code == api.OK {
					all = append(all, e)
				}
			case 1:
				if e, code := b.del(e.Key); code == api.OK {
					all = append(all, e)
				}
			case 2:
				b.tick()
			case 3:
				b.d.Crash(r.Intn(9))
				b.anew("crashed")
			}
			if _, code := b.merge(e); code == api.OK {
				all = append(all, e)
			}
		}
		b.sameList(fmt.Sprint("seed ", seed), b.r.Entries(), newest(all))
	}
}

// P12.8.

// step is a call of a story, that is made of a replica, and of a plain one.
type step func(c calls) (api.Entry, api.Errno)

type calls interface {
	Put(key, value string) (api.Entry, api.Errno)
	Delete(key string) (api.Entry, api.Errno)
	Merge(e api.Entry) (int, api.Entry, api.Errno)
	Tick() []string
}

func puts(key, value string) step {
	return func(c calls) (api.Entry, api.Errno) { return c.Put(key, value) }
}

func dels(key string) step {
	return func(c calls) (api.Entry, api.Errno) { return c.Delete(key) }
}

func merges(e api.Entry) step {
	return func(c calls) (api.Entry, api.Errno) { _, is, code := c.Merge(e); return is, code }
}

func ticks(c calls) (api.Entry, api.Errno) { c.Tick(); return api.Entry{}, api.OK }

// aStory has all that is set down: puts, deletes, entries that are taken, and one that is woken.
func aStory() []step {
	return []step{
		puts("a", "1"), merges(live("b", "2", at(7, 1))), dels("a"), merges(live("b", "older", at(6, 1))), merges(kept("c", at(9, 1), 1)),
		ticks, puts("b", "here"), ticks, ticks, merges(live("a", "obsolete", at(1, 0))), merges(kept("b", at(30, 1), 0)), puts("d", ""), dels("d"),
	}
}

// anyStep draws one, at which that entry may come in.
func anyStep(r *rand.Rand, e api.Entry) step {
	key := string(rune('a' + r.Intn(7)))
	switch r.Intn(8) {
	case 0, 1:
		return puts(key, strings.Repeat("w", r.Intn(33)))
	case 2:
		return dels(key)
	case 3:
		return ticks
	}
	return merges(e)
}

// takes makes a step. Where the power goes it tells so, and what the plain replica is if that step is kept.
func (b *both) takes(s step) (*plain, bool) {
	b.Helper()
	ahead := b.p.clone()
	want, wanted := s(ahead)
	e, code := s(b.r)
	if code == api.ErrPower {
		return ahead, true
	}
	b.p = ahead
	b.wrote("a step", e, want, code, wanted)
	return nil, false
}

// reopen opens the replica anew, behind a crash at which something was being added, or not. It tells whether that is there.
func (b *both) reopen(ahead *plain) bool {
	b.Helper()
	size := records(b.T, b.d)
	switch {
	case size == len(b.p.log):
		b.open(b.p.site, b.p.o, b.p.log...)
		return false
	case ahead == nil || size != len(ahead.log):
		b.Fatal("so many entries are kept: ", size, ", were: ", len(b.p.log))
	}
	b.open(b.p.site, b.p.o, ahead.log...)
	return true
}

// records gives how many records a disk has, of which the last one may not be whole.
func records(t *testing.T, d *disk.Disk) int {
	t.Helper()
	n := 0
	for left := bytesOf(t, d); len(left) >= 6; n++ {
		size := 6 + int(left[0]) + 256*int(left[1]) + 4
		if size > len(left) {
			break
		}
		left = left[size:]
	}
	return n
}

func TestWhereverThePowerGoes(t *testing.T) {
	met := map[bool]int{}
	for _, o := range []replica.Options{with(2, 4, 2, 9), with(3, 3, 0, 0)} {
		for fuse, on := 0, true; on; fuse++ {
			on = false
			for keep := -1; keep < 90; keep++ {
				b := begin(t, 0, o)
				b.d.Fuse(fuse)
				ahead, went := (*plain)(nil), false
				for _, s := range aStory() {
					if ahead, went = b.takes(s); went {
						break
					}
				}
				on = on || went
				b.d.Crash(keep)
				b.d.Fuse(0) // and once more, if something is to be cut off
				if _, code := replica.Open(0, o, b.d); code != api.OK && code != api.ErrPower {
					t.Fatal(fuse, keep, code)
				}
				b.d.Crash(keep)
				met[b.reopen(ahead)]++
				b.put("a", "goes on")
				b.merge(live("b", "goes on", at(99, 1)))
				b.same(fmt.Sprint("fuse ", fuse, ", keep ", keep))
			}
		}
	}
	if met[true] < 100 || met[false] < 1000 {
		t.Fatal("too few: ", met)
	}
}

// A crash while nothing is being added takes nothing.
func TestCrashesBetweenCalls(t *testing.T) {
	story := aStory()
	for n := range len(story) + 1 {
		for _, keep := range []int{-1, 0, 5, very} {
			b := begin(t, 0, with(2, 4, 2, 9))
			for _, s := range story[:n] {
				b.takes(s)
			}
			before := bytesOf(t, b.d)
			b.d.Crash(keep)
			if !bytes.Equal(bytesOf(t, b.d), before) {
				t.Fatal(n, keep, "something is gone")
			}
			b.reopen(nil)
		}
	}
}

func TestNoStampIsGivenTwice(t *testing.T) {
	crashes, stamps := 0, 0
	for seed := range 150 {
		r := rand.New(rand.NewSource(int64(seed)))
		b := begin(t, 3, with(4, 2, 3, 9))
		given := map[api.Stamp]bool{}
		for range 150 {
			if r.Intn(12) == 0 {
				b.d.Fuse(r.Intn(4))
			}
			before := len(b.p.log)
			if ahead, went := b.takes(anyStep(r, foreign(r, b.p))); went {
				crashes++
				b.d.Crash(r.Intn(80))
				b.reopen(ahead)
			}
			for _, e := range b.p.log[before:] {
				if e.Act.Site == 3 && given[e.Act] {
					t.Fatal("given twice: ", e.Act)
				}
				given[e.Act] = true
			}
		}
		stamps += len(given)
	}
	if crashes < 200 || stamps < 2000 {
		t.Fatal("too few: ", crashes, stamps)
	}
}

// foreign draws an entry that the site 3 has nothing to do with.
func foreign(r *rand.Rand, p *plain) api.Entry {
	e := anyEntry(r, p)
	for e.Stamp.Site == 3 || e.Act.Site == 3 {
		e = anyEntry(r, p)
	}
	return e
}

// P12.9.

func TestNotAgain(t *testing.T) {
	graves, woken := 0, 0
	for seed := range 300 {
		r := rand.New(rand.NewSource(int64(seed)))
		t1 := 1 + r.Intn(4)
		o := replica.Options{Nodes: 3, Quota: 3, Retain: 3, T1: t1, T2: t1 + r.Intn(20)}
		b := begin(t, r.Intn(3), o)
		for range 150 {
			e := anyEntry(r, b.p)
			if r.Intn(2) == 0 { // what is obsolete turns up
				e = live(e.Key, "obsolete", at(1+r.Intn(b.p.now+2), r.Intn(3)))
			}
			b.takes(anyStep(r, e))
			if r.Intn(40) == 0 {
				b.d.Crash(0)
				b.reopen(nil)
			}
			for _, grave := range b.r.Graves() {
				graves++
				e, there := b.r.Entry(grave.Key)
				if there && !e.Dead && order(e.Stamp, grave.Stamp) < 0 {
					t.Fatal("again: ", told(e), told(grave))
				}
			}
		}
		for _, e := range b.p.log {
			if order(e.Act, e.Stamp) > 0 && e.Act.Site == b.p.site {
				woken++
			}
		}
	}
	if graves < 10000 || woken < 200 {
		t.Fatal("too few: ", graves, woken)
	}
}

// As long as there is a grave what is obsolete is held off, again and again.
func TestNotAgainByHand(t *testing.T) {
	b := begin(t, 0, with(2, 4, 2, 5))
	b.put("k", "v")
	obsolete, _ := b.r.Entry("k")
	b.del("k")
	for i := range 40 {
		b.tick()
		what, code := b.merge(obsolete)
		if code != api.OK || what == replica.Taken {
			t.Fatal(i, what, code)
		}
		if _, ok := b.r.Get("k"); ok {
			t.Fatal("again: ", i)
		}
	}
	b.same("held off")
	for range 5 {
		b.tick()
	}
	b.becomes(obsolete, replica.Taken) // nobody knows any more
}
