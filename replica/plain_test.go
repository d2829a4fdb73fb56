package replica_test

import (
	"cmp"
	"fmt"
	"maps"
	"math/rand"
	"slices"
	"strings"
	"testing"

	"quidnunc/api"
	"quidnunc/disk"
	"quidnunc/entry"
	"quidnunc/journal"
	"quidnunc/replica"
	"quidnunc/sums"
	"quidnunc/table"
)

// What the tests of this package share: entries, disks, and a plain replica that is held against the project's.

const (
	greatest = 1<<32 - 1 // counter
	oldest   = 1<<31 - 1 // age
	all      = 1<<12 - 1 // the bits of all sites
	most     = 1 << 20   // bytes of a disk
	very     = 1 << 40   // more than there ever are
)

// at gives a stamp, that may be or not.
func at(counter, site int) api.Stamp { return api.Stamp{Counter: counter, Site: site} }

// live gives a live entry.
func live(key, value string, s api.Stamp) api.Entry {
	return api.Entry{Key: key, Value: value, Stamp: s, Act: s}
}

// dead gives a certificate, that may be if these may be.
func dead(key string, s, act api.Stamp, keepers, age int) api.Entry {
	return api.Entry{Key: key, Dead: true, Stamp: s, Act: act, Keepers: keepers, Age: age}
}

// kept gives a certificate that wasn't woken, and that all sites keep; left one that none of the first eleven keeps.
func kept(key string, s api.Stamp, age int) api.Entry { return dead(key, s, s, all, age) }
func left(key string, s api.Stamp, age int) api.Entry { return dead(key, s, s, 1<<11, age) }

// with gives options, of which Retain is 1.
func with(nodes, quota, t1, t2 int) replica.Options {
	return replica.Options{Nodes: nodes, Quota: quota, Retain: 1, T1: t1, T2: t2}
}

// noKeys are such that no entry has, noValues likewise.
var (
	noKeys   = []string{"", "k1234567890123456", strings.Repeat("\xff", 17), strings.Repeat("x", 255), strings.Repeat("x", 256), strings.Repeat("x", 5000)}
	noValues = []string{strings.Repeat("v", 33), strings.Repeat("\x00", 34), strings.Repeat("v", 255), strings.Repeat("v", 256), strings.Repeat("v", 5000)}
)

// order is above 0 if the first of two stamps is later, below 0 if the second one is, else 0.
func order(a, b api.Stamp) int {
	return cmp.Or(cmp.Compare(a.Counter, b.Counter), cmp.Compare(a.Site, b.Site))
}

// newer is what the document says of entries.
func newer(a, b api.Entry) bool { return cmp.Or(order(a.Stamp, b.Stamp), order(a.Act, b.Act)) > 0 }

// earlier is what the document says of marks.
func earlier(a, b api.Mark) bool { return cmp.Or(order(a.Act, b.Act), cmp.Compare(a.Key, b.Key)) < 0 }

// mark gives which version an entry is.
func mark(e api.Entry) api.Mark { return api.Mark{Act: e.Act, Key: e.Key} }

// plain is a replica as the document has it, in no order, and on no disk.
type plain struct {
	site        int
	o           replica.Options
	has, graves map[string]api.Entry
	own         map[string]bool
	now         int
	log         []api.Entry // what stands in the journal
	disk        api.Errno   // what the journal tells of the next entry
}

// opened gives the plain replica of a journal.
func opened(site int, o replica.Options, log ...api.Entry) *plain {
	p := &plain{site: site, o: o, has: map[string]api.Entry{}, graves: map[string]api.Entry{}, own: map[string]bool{}}
	for _, e := range log {
		if was, there := p.has[e.Key]; !there || newer(e, was) {
			p.has[e.Key] = e
		}
		p.note(e)
	}
	p.log = slices.Clone(log)
	return p
}

// clone gives another one that is the same.
func (p *plain) clone() *plain {
	c := *p
	c.has, c.graves, c.own, c.log = maps.Clone(p.has), maps.Clone(p.graves), maps.Clone(p.own), slices.Clone(p.log)
	return &c
}

// note is what an entry that is set down does beside having its place.
func (p *plain) note(e api.Entry) {
	p.now = max(p.now, e.Act.Counter)
	if e.Stamp.Site == p.site {
		p.own[e.Key] = true
	}
	if !e.Dead || e.Keepers>>p.site%2 == 0 || e.Age >= p.o.T2 {
		return
	}
	was, there := p.graves[e.Key]
	switch {
	case !there || order(e.Stamp, was.Stamp) > 0:
		p.graves[e.Key] = e
	case e.Stamp == was.Stamp:
		if order(e.Act, was.Act) > 0 {
			was.Act = e.Act
		}
		was.Age = min(was.Age, e.Age)
		p.graves[e.Key] = was
	}
}

func (p *plain) setDown(e api.Entry) (api.Entry, api.Errno) {
	if p.disk != api.OK {
		return api.Entry{}, p.disk
	}
	p.log = append(p.log, e)
	p.has[e.Key] = e
	p.note(e)
	return e, api.OK
}

func (p *plain) hasRoom(key string) bool {
	_, there := p.has[key]
	return there || len(p.has) < p.o.Nodes*p.o.Quota
}

func (p *plain) Put(key, value string) (api.Entry, api.Errno) {
	switch {
	case len(key) < 1 || len(key) > 16:
		return api.Entry{}, api.ErrKey
	case len(value) > 32:
		return api.Entry{}, api.ErrValue
	}
	return p.write(live(key, value, api.Stamp{}))
}

func (p *plain) Delete(key string) (api.Entry, api.Errno) {
	e, there := p.has[key]
	switch {
	case len(key) < 1 || len(key) > 16:
		return api.Entry{}, api.ErrKey
	case !there || e.Dead:
		return api.Entry{}, api.ErrNone
	}
	keepers := 0
	for i := range p.o.Retain {
		keepers |= 1 << ((p.site + i) % p.o.Nodes)
	}
	return p.write(dead(key, api.Stamp{}, api.Stamp{}, keepers, 0))
}

// write goes on from the first ErrFull that Put names.
func (p *plain) write(e api.Entry) (api.Entry, api.Errno) {
	switch {
	case !p.own[e.Key] && len(p.own) >= p.o.Quota:
		return api.Entry{}, api.ErrFull
	case !p.hasRoom(e.Key):
		return api.Entry{}, api.ErrFull
	case p.now == greatest:
		return api.Entry{}, api.ErrSpent
	}
	e.Stamp = at(p.now+1, p.site)
	e.Act = e.Stamp
	return p.setDown(e)
}

// age gives how old an entry is when it comes in.
func (p *plain) age(e api.Entry) int {
	was := p.has[e.Key]
	switch {
	case !e.Dead || p.o.T1 == 0:
		return 0
	case was.Dead:
		return min(e.Age+1, was.Age)
	}
	return e.Age + 1
}

func (p *plain) Merge(e api.Entry) (int, api.Entry, api.Errno) {
	if code := entry.Check(e); code != api.OK {
		return replica.Old, api.Entry{}, code
	}
	p.now = max(p.now, e.Act.Counter)
	was, there := p.has[e.Key]
	grave, buried := p.graves[e.Key]
	what := replica.Taken
	switch {
	case there && !newer(e, was):
		if e.Dead && was.Dead {
			was.Age = p.age(e)
			p.has[e.Key] = was
		}
		return replica.Old, api.Entry{}, api.OK
	case e.Dead && p.o.T1 != 0 && e.Age+1 >= p.o.T1:
		return replica.Old, api.Entry{}, api.OK
	case !p.hasRoom(e.Key):
		return replica.Old, api.Entry{}, api.ErrFull
	case buried && order(grave.Stamp, e.Stamp) > 0:
		if p.now == greatest {
			return replica.Old, api.Entry{}, api.ErrSpent
		}
		what, e = replica.Woken, grave
		e.Act, e.Age = at(p.now+1, p.site), 0
	default:
		e.Age = p.age(e)
	}
	e, code := p.setDown(e)
	if code != api.OK {
		what = replica.Old
	}
	return what, e, code
}

func (p *plain) Tick() []string {
	var gone []string
	if p.o.T1 == 0 {
		return nil
	}
	for _, e := range p.entries() {
		if !e.Dead {
			continue
		}
		e.Age++
		p.has[e.Key] = e
		if e.Age >= p.o.T1 {
			delete(p.has, e.Key)
			gone = append(gone, e.Key)
		}
	}
	for key, e := range maps.Clone(p.graves) {
		e.Age++
		p.graves[key] = e
		if e.Age == p.o.T2 {
			delete(p.graves, key)
		}
	}
	return gone
}

// rising gives entries by keys: Go holds texts against each other byte by byte.
func rising(m map[string]api.Entry) []api.Entry {
	var l []api.Entry
	for _, key := range slices.Sorted(maps.Keys(m)) {
		l = append(l, m[key])
	}
	return l
}

func (p *plain) entries() []api.Entry { return rising(p.has) }

func (p *plain) scan(from string, n int) []table.Pair[string] {
	var l []table.Pair[string]
	for _, e := range p.entries() {
		if e.Key >= from && !e.Dead && len(l) < n {
			l = append(l, table.Pair[string]{Key: e.Key, Value: e.Value})
		}
	}
	return l
}

func (p *plain) below(m api.Mark, n int) []api.Entry {
	l := slices.DeleteFunc(p.entries(), func(e api.Entry) bool { return m != api.Mark{} && !earlier(mark(e), m) })
	slices.SortFunc(l, func(a, b api.Entry) int {
		if earlier(mark(b), mark(a)) {
			return -1
		}
		return 1
	})
	return l[:max(0, min(n, len(l)))]
}

// laid gives a disk whose journal has these entries, all of it safe.
func laid(t *testing.T, log ...api.Entry) *disk.Disk {
	t.Helper()
	d := disk.New()
	for _, e := range log {
		b, code := entry.Encode(e)
		if code != api.OK {
			t.Fatal("no entry: ", told(e), code)
		}
		layRecord(t, d, b)
	}
	return d
}

// layRecord puts a record behind all others, whether it is an entry or not.
func layRecord(t *testing.T, d *disk.Disk, body []byte) {
	t.Helper()
	b, code := journal.Record(body)
	if code != api.OK || d.Append(b) != api.OK || d.Sync() != api.OK {
		t.Fatal("no record: ", body, code)
	}
}

// bytesOf gives a disk's bytes.
func bytesOf(t *testing.T, d *disk.Disk) []byte {
	t.Helper()
	b, code := d.Read()
	if code != api.OK {
		t.Fatal("no bytes: ", code)
	}
	return b
}

// both is a replica, and what it should tell.
type both struct {
	*testing.T
	d *disk.Disk
	r *replica.Replica
	p *plain
}

// begin gives a site's replica of a journal, and what it should tell.
func begin(t *testing.T, site int, o replica.Options, log ...api.Entry) *both {
	t.Helper()
	b := &both{t, laid(t, log...), nil, nil}
	b.open(site, o, log...)
	return b
}

// open opens a replica on the disk, which should have a journal of these entries.
func (b *both) open(site int, o replica.Options, log ...api.Entry) {
	b.Helper()
	r, code := replica.Open(site, o, b.d)
	if code != api.OK || r == nil {
		b.Fatalf("no replica: site %d, %v: error %d", site, o, code)
	}
	b.r, b.p = r, opened(site, o, log...)
	b.same("opened")
}

// Each of these makes a call, and fails the test where that doesn't tell what it should. Behind an error
// the counter may be another one, but never less.

func (b *both) put(key, value string) (api.Entry, api.Errno) {
	b.Helper()
	e, code := b.r.Put(key, value)
	want, wanted := b.p.Put(key, value)
	b.wrote("Put of "+short(key), e, want, code, wanted)
	return e, code
}

func (b *both) del(key string) (api.Entry, api.Errno) {
	b.Helper()
	e, code := b.r.Delete(key)
	want, wanted := b.p.Delete(key)
	b.wrote("Delete of "+short(key), e, want, code, wanted)
	return e, code
}

func (b *both) merge(e api.Entry) (int, api.Errno) {
	b.Helper()
	what, is, code := b.r.Merge(e)
	wanted, want, wantedCode := b.p.Merge(e)
	if what != wanted {
		b.Fatalf("Merge of %s: %d (error %d), want %d (%d)", told(e), what, code, wanted, wantedCode)
	}
	b.wrote("Merge of "+told(e), is, want, code, wantedCode)
	return what, code
}

func (b *both) tick() []string {
	b.Helper()
	gone, want := b.r.Tick(), b.p.Tick()
	if !slices.Equal(gone, want) {
		b.Fatalf("Tick: %q, want %q", gone, want)
	}
	return gone
}

// wrote holds an answer against the one that it should be.
func (b *both) wrote(what string, e, want api.Entry, code, wanted api.Errno) {
	b.Helper()
	if e != want || code != wanted {
		b.Fatalf("%s: %s, error %d; want %s, %d", what, told(e), code, told(want), wanted)
	}
	if code != api.OK {
		b.p.now = max(b.p.now, b.r.Now())
	}
}

// same fails the test where the replica doesn't tell what it should, of any call that changes nothing.
func (b *both) same(what string) {
	b.Helper()
	r, p := b.r, b.p
	l := p.entries()
	b.sameList(what+": Entries", r.Entries(), l)
	b.sameList(what+": Graves", r.Graves(), rising(p.graves))
	b.sameList(what+": Below the top", r.Below(api.Mark{}, very), p.below(api.Mark{}, very))
	own := slices.Sorted(maps.Keys(p.own))
	if !slices.Equal(r.Own(), own) || r.Now() != p.now || r.Site() != p.site {
		b.Fatalf("%s: own %q, now %d, site %d; want %q, %d, %d", what, r.Own(), r.Now(), r.Site(), own, p.now, p.site)
	}
	if r.Sum() != sums.Of(l...) {
		b.Fatalf("%s: sum %d, want that of %s", what, r.Sum(), told(l...))
	}
	if got := r.Scan("", very); !slices.Equal(got, p.scan("", very)) {
		b.Fatalf("%s: Scan: %q, want %q", what, got, p.scan("", very))
	}
	for key := range p.graves {
		b.sameKey(what, key)
	}
	for _, e := range l {
		b.sameKey(what, e.Key)
	}
	for _, key := range append([]string{"never there"}, noKeys...) {
		b.sameKey(what, key)
	}
}

// sameKey fails the test where a key has not what it should.
func (b *both) sameKey(what, key string) {
	b.Helper()
	want, there := b.p.has[key]
	if e, ok := b.r.Entry(key); e != want || ok != there {
		b.Fatalf("%s: Entry of %s: %s, %v; want %s, %v", what, short(key), told(e), ok, told(want), there)
	}
	if v, ok := b.r.Get(key); v != want.Value || ok != (there && !want.Dead) {
		b.Fatalf("%s: Get of %s: %q, %v; want that of %s", what, short(key), v, ok, told(want))
	}
}

// sameList fails the test where two lists of entries aren't the same.
func (b *both) sameList(what string, got, want []api.Entry) {
	b.Helper()
	if !slices.Equal(got, want) {
		b.Fatalf("%s: %s, want %s", what, told(got...), told(want...))
	}
}

// short gives a text for a message.
func short(s string) string {
	if len(s) > 20 {
		return fmt.Sprintf("%q.. of %d", s[:20], len(s))
	}
	return fmt.Sprintf("%q", s)
}

// told gives entries for a message.
func told(l ...api.Entry) string {
	s := fmt.Sprint(len(l), " entries")
	for i, e := range l {
		if i == 12 {
			return s + " .."
		}
		s += fmt.Sprint("; ", short(e.Key), " ", short(e.Value), " ", e.Dead, " ", e.Stamp, " ", e.Act, " ", e.Keepers, " ", e.Age)
	}
	return s
}

// mixed gives the same entries in another order.
func mixed(r *rand.Rand, l []api.Entry) []api.Entry {
	l = slices.Clone(l)
	r.Shuffle(len(l), func(i, k int) { l[i], l[k] = l[k], l[i] })
	return l
}

// row gives live entries of so many unlike keys, rising, of a site's writing.
func row(n, site int) []api.Entry {
	var l []api.Entry
	for i := range n {
		l = append(l, live(fmt.Sprintf("k%04d", i), fmt.Sprint("v", i), at(1+i, site)))
	}
	return l
}

// anyEntry draws one: of few keys, and of stamps, acts and ages near those that the replica has, so that many are
// the same, or all but; some may not be.
func anyEntry(r *rand.Rand, p *plain) api.Entry {
	s := at(max(1, p.now-4+r.Intn(7)), r.Intn(4))
	e := live(string(rune('a'+r.Intn(7))), strings.Repeat("v", r.Intn(3)), s)
	if r.Intn(2) == 0 {
		e = dead(e.Key, s, at(s.Counter+r.Intn(2), s.Site+r.Intn(3)), 1+r.Intn(all), r.Intn(min(p.o.T1, 5)+2))
		if r.Intn(2) == 0 {
			e.Keepers |= 1 << p.site
		}
	}
	switch r.Intn(25) {
	case 0:
		e.Key = noKeys[r.Intn(len(noKeys))]
	case 1:
		e.Value = noValues[r.Intn(len(noValues))]
	case 2:
		e.Stamp.Counter = -r.Intn(2)
	case 3:
		e.Act.Site = 12
	case 4:
		e.Age = -1
	case 5:
		e.Dead = !e.Dead
	}
	return e
}

// anyCall makes one, at will.
func anyCall(r *rand.Rand, b *both) {
	b.Helper()
	key := string(rune('a' + r.Intn(7)))
	if r.Intn(30) == 0 {
		key = noKeys[r.Intn(len(noKeys))]
	}
	switch r.Intn(12) {
	case 0, 1:
		b.put(key, strings.Repeat("w", r.Intn(34)))
	case 2:
		b.del(key)
	case 3:
		b.tick()
	case 4:
		b.merge(b.p.has[key]) // what is there already, or the zero entry
	default:
		b.merge(anyEntry(r, b.p))
	}
}

// anyOptions draws some: few keys, and short times.
func anyOptions(r *rand.Rand) replica.Options {
	o := replica.Options{Nodes: 1 + r.Intn(3), Quota: 1 + r.Intn(4), T1: r.Intn(6)}
	o.Retain = 1 + r.Intn(o.Nodes)
	if o.T1 > 0 {
		o.T2 = o.T1 + r.Intn(5)
	}
	return o
}
