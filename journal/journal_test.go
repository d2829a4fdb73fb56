package journal_test

import (
	"bytes"
	"fmt"
	"hash/crc32"
	"math"
	"math/rand"
	"slices"
	"testing"

	"quidnunc/api"
	"quidnunc/disk"
	"quidnunc/journal"
)

const (
	longest = 512     // bytes of a record
	most    = 1 << 20 // bytes of a disk
)

// mark gives bytes, marked, without the project's sums.
func mark(b ...byte) []byte {
	s := crc32.ChecksumIEEE(b)
	return append(bytes.Clone(b), byte(s), byte(s>>8), byte(s>>16), byte(s>>24))
}

// head gives what stands ahead of a record that is said to have so many bytes, whether it may or not.
func head(said int) []byte { return mark(byte(said), byte(said>>8)) }

// stood gives records as they stand in a journal, one behind the other.
func stood(bodies ...[]byte) []byte {
	var b []byte
	for _, body := range bodies {
		b = append(append(b, head(len(body))...), mark(body...)...)
	}
	return b
}

// join gives all bytes, one behind the other.
func join(parts ...[]byte) []byte { return slices.Concat(parts...) }

// row gives so many bytes, of which no two near ones are alike.
func row(n int) []byte {
	b := make([]byte, n)
	for i := range b {
		b[i] = byte(1 + i%251)
	}
	return b
}

// drawn gives so many bytes that are drawn.
func drawn(r *rand.Rand, n int) []byte {
	b := make([]byte, n)
	r.Read(b)
	return b
}

// bodies gives records of these lengths, unlike one another.
func bodies(lengths ...int) [][]byte {
	var l [][]byte
	for i, n := range lengths {
		l = append(l, row(n + i)[i:])
	}
	return l
}

// lengths are how many bytes records have.
var lengths = []int{1, 2, 3, 4, 5, 6, 7, 9, 11, 255, 256, 257, 511, 512}

// tooLong are how many bytes no record has.
var tooLong = []int{513, 514, 767, 768, 1024, 1025, 65535, 65536, 65537, 65536 + 7, 65536 + 512, 1<<20 + 3}

// is tells of an error that isn't the one that it should be.
func is(t *testing.T, what string, got, want api.Errno) {
	t.Helper()
	if got != want {
		t.Fatalf("%s: error %d, want %d", what, got, want)
	}
}

// alike tells whether two lists have the same records.
func alike(a, b [][]byte) bool { return slices.EqualFunc(a, b, bytes.Equal) }

// told gives records for a message: how many bytes each has, and its first ones.
func told(l [][]byte) string {
	s := fmt.Sprint(len(l), " records")
	for i, b := range l {
		if i == 20 {
			return s + " .."
		}
		s += fmt.Sprint(" ", len(b), ":", b[:min(len(b), 4)])
	}
	return s
}

// plainRead reads bytes as the document has it: what is left, record by record.
func plainRead(left []byte) ([][]byte, int, api.Errno) {
	if len(left) < 6 {
		return nil, 0, api.OK
	}
	said := int(left[0]) + 256*int(left[1])
	if !bytes.Equal(left[:6], mark(left[:2]...)) || said < 1 || said > 512 {
		return nil, 0, api.ErrRot
	}
	if len(left)-6 < said+4 {
		return nil, 0, api.OK
	}
	body, behind := left[6:6+said], left[6+said+4:]
	if !bytes.Equal(left[6:6+said+4], mark(body...)) {
		return nil, 0, api.ErrRot
	}
	others, n, e := plainRead(behind)
	if e != api.OK {
		return nil, 0, e
	}
	return append([][]byte{body}, others...), 6 + said + 4 + n, api.OK
}

// reads fails the test where bytes haven't just these records, or are read with another error.
func reads(t *testing.T, what string, b []byte, want [][]byte, code api.Errno) {
	t.Helper()
	size := len(stood(want...))
	l, n, e := journal.Read(b)
	if e != code || !alike(l, want) || n != size {
		t.Fatalf("%s: %s, %d bytes, error %d; want %s, %d, %d", what, told(l), n, e, told(want), size, code)
	}
}

// rotten fails the test where bytes aren't rot, or something is told beside it.
func rotten(t *testing.T, what string, b []byte) {
	t.Helper()
	reads(t, what, b, nil, api.ErrRot)
}

// P7.1: Record.

func TestExample(t *testing.T) {
	b, e := journal.Record([]byte{7})
	want := append(mark(1, 0), mark(7)...)
	if e != api.OK || len(b) != 11 || !bytes.Equal(b, want) {
		t.Error(b, e)
	}
	if journal.MaxBody != longest {
		t.Error(journal.MaxBody)
	}
}

func TestRecord(t *testing.T) {
	r := rand.New(rand.NewSource(1))
	for n := 1; n <= longest; n++ {
		body := drawn(r, n)
		b, e := journal.Record(body)
		if e != api.OK || len(b) != n+10 || !bytes.Equal(b, stood(body)) {
			t.Fatalf("of %d: %v, error %d", n, b, e)
		}
	}
}

func TestRecordOfLikeBytes(t *testing.T) {
	for _, v := range []byte{0, 1, 128, 255} {
		for _, n := range lengths {
			body := bytes.Repeat([]byte{v}, n)
			if b, e := journal.Record(body); e != api.OK || !bytes.Equal(b, stood(body)) {
				t.Fatalf("of %d bytes %d: %v, error %d", n, v, b, e)
			}
		}
	}
}

func TestRecordOfNone(t *testing.T) {
	for _, none := range [][]byte{nil, {}, row(4)[2:2]} {
		if b, e := journal.Record(none); e != api.ErrArg || len(b) != 0 {
			t.Error(b, e)
		}
	}
}

func TestRecordTooLong(t *testing.T) {
	for _, n := range tooLong {
		if b, e := journal.Record(make([]byte, n)); e != api.ErrFull || len(b) != 0 {
			t.Errorf("of %d: %d bytes, error %d", n, len(b), e)
		}
	}
}

// P7.1: Read.

func TestReadOfNothing(t *testing.T) {
	reads(t, "nil", nil, nil, api.OK)
	reads(t, "no bytes", []byte{}, nil, api.OK)
}

func TestRead(t *testing.T) {
	for _, n := range lengths {
		for _, m := range lengths {
			l := bodies(n, m, n)
			reads(t, fmt.Sprint(n, " alone"), stood(l[0]), l[:1], api.OK)
			reads(t, fmt.Sprint(n, ", ", m), stood(l[:2]...), l[:2], api.OK)
			reads(t, fmt.Sprint(n, ", ", m, ", ", n), stood(l...), l, api.OK)
		}
	}
}

func TestReadOfEachLength(t *testing.T) {
	r := rand.New(rand.NewSource(2))
	var all [][]byte
	for n := 1; n <= longest; n++ {
		body := drawn(r, n)
		all = append(all, body)
		reads(t, fmt.Sprint("of ", n), stood(body), [][]byte{body}, api.OK)
	}
	reads(t, "all together", stood(all...), all, api.OK)
}

func TestWhatRecordGivesIsRead(t *testing.T) {
	r := rand.New(rand.NewSource(3))
	for range 200 {
		var l [][]byte
		var b []byte
		for range r.Intn(20) {
			body := drawn(r, 1+r.Intn(1<<r.Intn(10)))
			one, e := journal.Record(body)
			is(t, "a record", e, api.OK)
			l, b = append(l, body), append(b, one...)
		}
		reads(t, "together", b, l, api.OK)
	}
}

func TestRecordsOfRecords(t *testing.T) {
	l := [][]byte{stood([]byte{7}), head(5), head(0), {0, 0, 0, 0, 0, 0}, mark(1, 2, 3), stood(bodies(3, 4)...)[:15]}
	reads(t, "what looks like a journal within records", stood(l...), l, api.OK)
}

func TestReadOfMoreThanADiskHas(t *testing.T) {
	var l [][]byte
	for i := range 4100 {
		l = append(l, bytes.Repeat([]byte{byte(i)}, longest))
	}
	b := stood(l...)
	reads(t, "very many", b, l, api.OK)
	reads(t, "very many, the last not whole", b[:len(b)-1], l[:len(l)-1], api.OK)
	b[len(b)-1] ^= 1
	rotten(t, "very many, the last one rotten", b)
}

func TestReadOfBytesCutOff(t *testing.T) {
	for _, l := range [][][]byte{bodies(1), bodies(2, 1, 3), bodies(1, 1), bodies(40, 7, 256), bodies(512), bodies(511, 512)} {
		b := stood(l...)
		for n := range len(b) + 1 {
			whole := 0
			for whole < len(l) && len(stood(l[:whole+1]...)) <= n {
				whole++
			}
			reads(t, fmt.Sprint(n, " of ", len(b)), b[:n], l[:whole], api.OK)
		}
	}
}

func TestFewerThanSixBytesAreTheEnd(t *testing.T) {
	for n := range 6 {
		for _, ahead := range [][][]byte{nil, bodies(3), bodies(512, 1)} {
			for _, v := range []byte{0, 1, 9, 255} {
				b := append(stood(ahead...), bytes.Repeat([]byte{v}, n)...)
				reads(t, fmt.Sprint(n, " bytes ", v, " behind ", len(ahead)), b, ahead, api.OK)
			}
			b := append(stood(ahead...), mark(9, 9, 9, 9)[8-n:]...)
			reads(t, fmt.Sprint(n, " of a mark behind ", len(ahead)), b, ahead, api.OK)
		}
	}
}

func TestSixBytesThatAreNotMarked(t *testing.T) {
	for _, said := range []int{1, 2, 300, 512} {
		record := stood(row(said))
		for at := range 6 {
			for by := 1; by < 256; by++ {
				b := bytes.Clone(record)
				b[at] ^= byte(by)
				what := fmt.Sprint(said, " said, byte ", at, " turned by ", by)
				rotten(t, what+", nothing behind", b[:6])
				rotten(t, what+", a byte behind", b[:7])
				rotten(t, what+", one missing", b[:len(b)-1])
				rotten(t, what, b)
			}
		}
	}
	for _, v := range []byte{0, 1, 255} {
		for n := 6; n < 600; n += 13 {
			rotten(t, fmt.Sprint(n, " bytes ", v), bytes.Repeat([]byte{v}, n))
		}
	}
}

// A number's highest byte comes last: 2, 0 is 2, and 0, 2 is MaxBody.
func TestSixBytesThatAreMarked(t *testing.T) {
	for said := range 1 << 16 {
		what := fmt.Sprint("said to be ", said)
		if said < 1 || said > longest {
			rotten(t, what, head(said))
			continue
		}
		reads(t, what, head(said), nil, api.OK)
	}
}

func TestNumbersThatMayNotBe(t *testing.T) {
	for _, said := range []int{0, 513, 514, 768, 1024, 32768, 65535} {
		for _, behind := range []int{0, 1, 3, 4, 5, 100, said - 1, said, said + 1, said + 10} {
			b := append(head(said), row(max(behind, 0))...)
			rotten(t, fmt.Sprint(said, " said, ", behind, " bytes behind"), b)
		}
		rotten(t, fmt.Sprint(said, " said, and they are there, marked"), append(head(said), mark(row(said)...)...))
		rotten(t, fmt.Sprint(said, " said, behind a record"), append(stood(row(5)), head(said)...))
		rotten(t, fmt.Sprint(said, " said, ahead of a record"), append(head(said), stood(row(5))...))
	}
}

func TestMoreSaidThanThereAre(t *testing.T) {
	for _, said := range lengths {
		for _, ahead := range [][][]byte{nil, bodies(3), bodies(512, 1)} {
			for _, there := range []int{0, 1, said / 2, said - 1, said, said + 1, said + 3} {
				b := join(stood(ahead...), head(said), row(there))
				reads(t, fmt.Sprint(said, " said, ", there, " of them and their mark there"), b, ahead, api.OK)
			}
		}
	}
}

// What lies behind a head that says more than there are is that one's, whatever it looks like.
func TestNothingIsReadBehindWhatIsNotWhole(t *testing.T) {
	for _, ahead := range [][][]byte{nil, bodies(2), bodies(40, 1)} {
		for _, b := range [][]byte{
			stood(row(5)), stood(bodies(5, 6)...), stood(row(490)), head(0), head(513), make([]byte, 6), row(515),
			stood(row(5))[:14], append(stood(row(5)), head(0)...),
		} {
			reads(t, "behind a head of 512", join(stood(ahead...), head(512), b), ahead, api.OK)
		}
	}
	l := bodies(9, 8)
	b := append(stood(l[0])[:18], stood(l[1])...) // the first without its last byte
	rotten(t, "one without its last byte, and one behind it", b)
}

func TestARecordWhoseOwnMarkDoesNotHold(t *testing.T) {
	for _, n := range []int{1, 2, 5, 40} {
		whole := stood(row(n))
		for at := 6; at < len(whole); at++ {
			for by := 1; by < 256; by++ {
				b := bytes.Clone(whole)
				b[at] ^= byte(by)
				rotten(t, fmt.Sprint("of ", n, ", byte ", at, " turned by ", by), b)
			}
		}
	}
	for _, n := range lengths {
		rotten(t, fmt.Sprint("of ", n, ", the mark 0"), join(head(n), row(n), make([]byte, 4)))
		s := mark(row(n)...)
		s[n], s[n+1], s[n+2], s[n+3] = s[n+3], s[n+2], s[n+1], s[n]
		rotten(t, fmt.Sprint("of ", n, ", its mark the highest byte first"), append(head(n), s...))
		both := stood(row(n))
		sum := mark(both[:6+n]...)[6+n:]
		rotten(t, fmt.Sprint("of ", n, ", marked together with its head"), append(both[:6+n:6+n], sum...))
		rotten(t, fmt.Sprint("of ", n, ", one byte less said"), append(head(n-1), mark(row(n)...)...))
	}
}

func TestRotBehindWholeRecords(t *testing.T) {
	for _, l := range [][][]byte{bodies(1), bodies(512), bodies(3, 2, 1), bodies(300, 1, 512, 7)} {
		for name, rot := range rots() {
			b := append(stood(l...), rot...)
			rotten(t, name+" behind whole ones", b)
			rotten(t, name+" between whole ones", append(b, stood(l...)...))
		}
	}
}

func TestAWholeRecordBehindRot(t *testing.T) {
	for name, rot := range rots() {
		for _, n := range lengths {
			rotten(t, fmt.Sprint("one of ", n, " behind ", name), append(bytes.Clone(rot), stood(row(n))...))
		}
		rotten(t, name+" alone", rot)
		rotten(t, name+" twice", append(bytes.Clone(rot), rot...))
		rotten(t, name+", and what isn't whole", append(bytes.Clone(rot), head(4)...))
	}
}

// rots are bytes that are rot, each for a reason of its own, whatever stands ahead of them or behind.
func rots() map[string][]byte {
	turned := stood(row(9))
	turned[8] ^= 1
	mark := stood(row(9))
	mark[len(mark)-1] ^= 128
	return map[string][]byte{
		"a head that isn't marked": {1, 0, 0, 0, 0, 0},
		"a head that says 0":       head(0),
		"a head that says 513":     head(513),
		"a head that says 65535":   head(65535),
		"a record that was turned": turned,
		"a mark that was turned":   mark,
	}
}

// P7.1: several faults at once: the one that comes first in the order of reading.

func TestReadTellsWhatComesFirst(t *testing.T) {
	one, other := row(9), row(30)
	torn := stood(one)[:12]
	long := stood(other)
	long[7] ^= 1 // its own mark doesn't hold
	unmarked := stood(other)
	unmarked[3] ^= 1
	rotten(t, "not marked, and says 0", []byte{0, 0, 9, 9, 9, 9})
	rotten(t, "not marked, and says more than there are", unmarked[:20])
	rotten(t, "says 513, and more than there are", append(head(513), 1, 2, 3))
	reads(t, "says more than there are, and what there is was turned", long[:30], nil, api.OK)
	reads(t, "a record, one that isn't whole, turned", append(stood(one), long[:39]...), [][]byte{one}, api.OK)
	rotten(t, "a record, one that is whole, turned", append(stood(one), long...))
	rotten(t, "what isn't whole, and so much behind it that it looks whole", append(torn, stood(other)...))
	rotten(t, "turned, and behind it what isn't whole", append(bytes.Clone(long), torn...))
	rotten(t, "turned, then a head that says 0", append(bytes.Clone(long), head(0)...))
	reads(t, "five bytes that are no head's", []byte{0, 0, 9, 9, 9}, nil, api.OK)
}

// piece draws a piece of what a journal may have, or may not.
func piece(r *rand.Rand) []byte {
	body := drawn(r, 1+r.Intn(6))
	switch r.Intn(12) {
	case 0:
		return head(r.Intn(4) * 256)
	case 1:
		return drawn(r, r.Intn(9))
	case 2:
		return join(head(len(body)+r.Intn(3)-1), mark(body...))
	case 3:
		b := stood(body)
		b[r.Intn(len(b))] ^= byte(r.Intn(4))
		return b
	case 4:
		b := stood(body)
		return b[:r.Intn(len(b)+1)]
	}
	return stood(body)
}

func TestAnyBytes(t *testing.T) {
	r := rand.New(rand.NewSource(4))
	for range 20000 {
		var b []byte
		for range r.Intn(7) {
			b = append(b, piece(r)...)
		}
		want, size, code := plainRead(b)
		l, n, e := journal.Read(b)
		if e != code || n != size || !alike(l, want) {
			t.Fatalf("%v: %s, %d bytes, error %d; want %s, %d, %d", b, told(l), n, e, told(want), size, code)
		}
	}
}

func FuzzRead(f *testing.F) {
	f.Add([]byte(nil))
	f.Add(stood(bodies(3, 1)...))
	f.Add(stood(bodies(3, 1)...)[:20])
	f.Add(head(0))
	f.Add(head(513))
	f.Fuzz(func(t *testing.T, b []byte) {
		want, size, code := plainRead(b)
		l, n, e := journal.Read(b)
		if e != code || n != size || !alike(l, want) {
			t.Errorf("%v: %s, %d bytes, error %d; want %s, %d, %d", b, told(l), n, e, told(want), size, code)
		}
	})
}

// P7.2: Open.

// laid gives a disk that has bytes, the first of which are safe.
func laid(t *testing.T, b []byte, safe int) *disk.Disk {
	t.Helper()
	d := disk.New()
	is(t, "the safe ones laid", d.Append(b[:safe]), api.OK)
	is(t, "synced", d.Sync(), api.OK)
	is(t, "the others laid", d.Append(b[safe:]), api.OK)
	return d
}

// darken takes a disk's power.
func darken(t *testing.T, d *disk.Disk) {
	t.Helper()
	d.Fuse(0)
	is(t, "the power taken", d.Sync(), api.ErrPower)
}

// has fails the test where a disk with power hasn't just these bytes, so many of which are safe.
func has(t *testing.T, what string, d *disk.Disk, want []byte, safe int) {
	t.Helper()
	b, e := d.Read()
	if e != api.OK || !bytes.Equal(b, want) || d.Safe() != safe {
		t.Fatalf("%s: the disk has %d bytes, %d of them safe, error %d; want %d, %d", what, len(b), d.Safe(), e, len(want), safe)
	}
}

// burns fails the test where a disk's fuse doesn't let just so many more changes through.
func burns(t *testing.T, what string, d *disk.Disk, left int) {
	t.Helper()
	for i := range left {
		is(t, fmt.Sprint(what, ": change ", i, " of ", left), d.Sync(), api.OK)
	}
	is(t, what+": the change behind", d.Sync(), api.ErrPower)
}

// open opens a disk that must have just these records.
func open(t *testing.T, what string, d *disk.Disk, want [][]byte) *journal.Journal {
	t.Helper()
	j, l, e := journal.Open(d)
	if e != api.OK || j == nil || !alike(l, want) {
		t.Fatalf("%s: opened: %s, error %d; want %s", what, told(l), e, told(want))
	}
	if j.Len() != len(want) {
		t.Fatalf("%s: opened: %d records, want %d", what, j.Len(), len(want))
	}
	return j
}

// refused fails the test where a disk isn't refused with this error, or something is answered beside it.
func refused(t *testing.T, what string, d *disk.Disk, code api.Errno) {
	t.Helper()
	j, l, e := journal.Open(d)
	if e != code || j != nil || len(l) != 0 {
		t.Fatalf("%s: %s, error %d, a journal: %v; want error %d", what, told(l), e, j != nil, code)
	}
}

func TestOpenOfANewDisk(t *testing.T) {
	d := disk.New()
	j := open(t, "new", d, nil)
	has(t, "new", d, nil, 0)
	is(t, "added", j.Add([]byte{7}), api.OK)
	has(t, "added", d, stood([]byte{7}), 11)
	open(t, "again", d, [][]byte{{7}})
}

// Also with a fuse that lets nothing through: Open of what is whole makes no change.
func TestOpenOfWhatIsWholeChangesNothing(t *testing.T) {
	for _, l := range [][][]byte{nil, bodies(1), bodies(512), bodies(3, 2, 1), bodies(300, 1, 512, 7)} {
		b := stood(l...)
		for _, safe := range []int{0, len(b) / 3, len(b)} {
			for n := range 3 {
				d := laid(t, b, safe)
				d.Fuse(n)
				what := fmt.Sprint(len(l), " records, ", safe, " bytes safe, a fuse of ", n)
				open(t, what, d, l)
				open(t, what+", once more", d, l)
				has(t, what, d, b, safe)
				burns(t, what, d, n)
			}
		}
	}
}

func TestOpenCutsOffWhatIsNotWhole(t *testing.T) {
	for _, l := range [][][]byte{nil, bodies(1), bodies(3, 2), bodies(512)} {
		ahead := stood(l...)
		for _, body := range bodies(1, 6, 60) {
			torn := stood(body)
			for n := 1; n < len(torn); n++ {
				b := append(bytes.Clone(ahead), torn[:n]...)
				for _, safe := range []int{0, len(ahead), len(b)} {
					d := laid(t, b, safe)
					d.Fuse(2)
					what := fmt.Sprint(n, " of ", len(torn), " behind ", len(l), ", ", safe, " bytes safe")
					j := open(t, what, d, l)
					has(t, what, d, ahead, min(safe, len(ahead)))
					burns(t, what, d, 1) // Trim was called, and nothing else
					d.Crash(math.MaxInt)
					is(t, what+", added", j.Add(body), api.OK)
					has(t, what+", added", d, append(bytes.Clone(ahead), torn...), len(ahead)+len(torn))
				}
			}
		}
	}
}

func TestOpenWithoutPower(t *testing.T) {
	turned := stood(bodies(3, 4)...)
	turned[7] ^= 1
	for name, b := range map[string][]byte{
		"nothing": nil, "whole ones": stood(bodies(3, 4)...), "one that isn't whole": stood(row(9))[:8], "rot": turned,
	} {
		d := laid(t, b, len(b)/2)
		darken(t, d)
		refused(t, name, d, api.ErrPower)
		refused(t, name+", once more", d, api.ErrPower)
		if d.On() || d.Len() != len(b) || d.Safe() != len(b)/2 {
			t.Fatalf("%s: %v, %d bytes, %d safe", name, d.On(), d.Len(), d.Safe())
		}
		d.Crash(math.MaxInt)
		has(t, name, d, b, len(b))
	}
}

func TestOpenOfRot(t *testing.T) {
	for name, rot := range rots() {
		for _, l := range [][][]byte{nil, bodies(1), bodies(5, 512)} {
			for _, behind := range [][]byte{nil, {1}, stood(row(4)), stood(row(4))[:9]} {
				b := join(stood(l...), rot, behind)
				for n := range 3 {
					d := laid(t, b, len(b)-3)
					d.Fuse(n)
					what := fmt.Sprint(name, " behind ", len(l), ", a fuse of ", n)
					refused(t, what, d, api.ErrRot)
					refused(t, what+", once more", d, api.ErrRot)
					has(t, what, d, b, len(b)-3) // it isn't cut off
					burns(t, what, d, n)
				}
			}
		}
	}
}

func TestThePowerGoesWithinOpen(t *testing.T) {
	l := bodies(3, 2)
	ahead := stood(l...)
	torn := stood(row(9))
	for n := 1; n < len(torn); n++ {
		for _, safe := range []int{0, len(ahead), len(ahead) + n} {
			d := laid(t, append(bytes.Clone(ahead), torn[:n]...), safe)
			d.Fuse(0)
			what := fmt.Sprint(n, " of ", len(torn), ", ", safe, " bytes safe")
			refused(t, what, d, api.ErrPower)
			if d.On() || d.Len() != len(ahead)+n || d.Safe() != safe {
				t.Fatalf("%s: %v, %d bytes, %d safe", what, d.On(), d.Len(), d.Safe())
			}
			refused(t, what+", without power", d, api.ErrPower)
			d.Crash(math.MaxInt)
			open(t, what+", behind a crash", d, l)
			has(t, what+", behind a crash", d, ahead, len(ahead))
		}
	}
}

// P7.2: Add, and Len.

func TestAdd(t *testing.T) {
	d := disk.New()
	j := open(t, "new", d, nil)
	var l [][]byte
	for i, body := range bodies(lengths...) {
		is(t, fmt.Sprint(len(body), " added"), j.Add(body), api.OK)
		l = append(l, body)
		b := stood(l...)
		has(t, fmt.Sprint(len(body), " added"), d, b, len(b))
		if j.Len() != i+1 {
			t.Fatalf("%d records, want %d", j.Len(), i+1)
		}
		open(t, fmt.Sprint(len(body), " added, opened anew"), d, l)
	}
	for range 3 {
		is(t, "the same again", j.Add([]byte{1}), api.OK)
		l = append(l, []byte{1})
	}
	open(t, "the same again", d, l)
}

// Add behind Open: all is safe, also what wasn't when the journal was opened.
func TestAddBehindOpen(t *testing.T) {
	for _, l := range [][][]byte{nil, bodies(1), bodies(7, 512, 3)} {
		for _, torn := range []int{0, 3, 6, 13} {
			ahead := stood(l...)
			d := laid(t, append(bytes.Clone(ahead), stood(row(9))[:torn]...), len(ahead)/2)
			j := open(t, "opened", d, l)
			all := slices.Clone(l)
			for i, body := range bodies(5, 1, 6) {
				is(t, "added", j.Add(body), api.OK)
				all = append(all, body)
				b := stood(all...)
				has(t, fmt.Sprint(i, " added behind ", len(l)), d, b, len(b))
				if j.Len() != len(all) {
					t.Fatalf("%d records, want %d", j.Len(), len(all))
				}
			}
			d.Crash(0)
			open(t, "behind a crash", d, all)
		}
	}
}

func TestAddCallsAppendAndSyncAlone(t *testing.T) {
	for n := 2; n < 9; n++ {
		d := disk.New()
		j := open(t, "new", d, nil)
		d.Fuse(n)
		for range n / 2 {
			is(t, "added", j.Add(row(20)), api.OK)
		}
		burns(t, fmt.Sprint("a fuse of ", n), d, n%2)
	}
}

func TestAddOfWhatIsNoRecord(t *testing.T) {
	l := bodies(3, 2)
	b := stood(l...)
	for n := range 3 {
		d := laid(t, b, 5)
		j := open(t, "opened", d, l)
		d.Fuse(n)
		for range 3 {
			is(t, "nil added", j.Add(nil), api.ErrArg)
			is(t, "none added", j.Add([]byte{}), api.ErrArg)
			for _, long := range tooLong {
				is(t, fmt.Sprint(long, " added"), j.Add(make([]byte, long)), api.ErrFull)
			}
			has(t, "no record added", d, b, 5)
			if j.Len() != 2 {
				t.Fatal(j.Len(), " records")
			}
		}
		burns(t, fmt.Sprint("a fuse of ", n), d, n)
	}
	d := laid(t, b, 5)
	j := open(t, "opened", d, l)
	is(t, "none added", j.Add(nil), api.ErrArg)
	is(t, "too long added", j.Add(make([]byte, 513)), api.ErrFull)
	is(t, "added behind", j.Add([]byte{8}), api.OK)
	open(t, "added behind", d, append(l, []byte{8}))
	if j.Len() != 3 {
		t.Fatal(j.Len(), " records")
	}
}

func TestAddTellsWhatComesFirst(t *testing.T) {
	d := disk.New()
	j := open(t, "new", d, nil)
	darken(t, d)
	is(t, "none, without power", j.Add(nil), api.ErrArg)
	is(t, "too long, without power", j.Add(make([]byte, 513)), api.ErrFull)
	is(t, "a record, without power", j.Add([]byte{7}), api.ErrPower)
	d, j = full(t, 10)
	d.Fuse(0)
	is(t, "none, a full disk, no fuse left", j.Add(nil), api.ErrArg)
	is(t, "too long, a full disk, no fuse left", j.Add(make([]byte, 513)), api.ErrFull)
	is(t, "no room, no fuse left", j.Add([]byte{7}), api.ErrFull)
	burns(t, "no room", d, 0)
	d, j = full(t, 10)
	darken(t, d)
	is(t, "no room, no power", j.Add([]byte{7}), api.ErrPower)
}

// full gives a disk of records, with room for so many bytes, and its journal.
func full(t *testing.T, room int) (*disk.Disk, *journal.Journal) {
	t.Helper()
	var l [][]byte
	left := most - room
	for left > 0 {
		n := min(longest, left-10)
		if rest := left - 10 - n; rest > 0 && rest < 11 { // too few for one more
			n -= 11
		}
		l = append(l, bytes.Repeat([]byte{byte(len(l))}, n))
		left -= n + 10
	}
	d := laid(t, stood(l...), most-room)
	j, got, e := journal.Open(d)
	if e != api.OK || !alike(got, l) || j.Len() != len(l) || d.Len() != most-room {
		t.Fatalf("%s of %d, %d bytes, error %d", told(got), len(l), d.Len(), e)
	}
	return d, j
}

func TestAddWithoutRoom(t *testing.T) {
	for _, room := range []int{0, 1, 10, 11, 50, 521, 522, 523} {
		d, j := full(t, room)
		n := j.Len()
		before, _ := d.Read()
		if body := room - 10; body < longest { // the least that has no room
			is(t, fmt.Sprint("one too many to room for ", room), j.Add(row(max(body, 0)+1)), api.ErrFull)
		}
		has(t, fmt.Sprint("room for ", room), d, before, len(before))
		if room < 11 {
			continue
		}
		d, j = full(t, room)
		body := row(min(room-10, longest))
		is(t, fmt.Sprint("just as many to room for ", room), j.Add(body), api.OK)
		has(t, fmt.Sprint("just as many to room for ", room), d, append(before, stood(body)...), len(before)+len(body)+10)
		if j.Len() != n+1 {
			t.Fatalf("%d records, want %d", j.Len(), n+1)
		}
		is(t, "no room", j.Add([]byte{1}), api.ErrFull)
		if j, l, e := journal.Open(d); e != api.OK || j.Len() != n+1 || !bytes.Equal(l[n], body) {
			t.Fatal(told(l), e)
		}
	}
}

func TestAddWithoutPower(t *testing.T) {
	l := bodies(3, 2)
	b := stood(l...)
	d := laid(t, b, len(b))
	j := open(t, "opened", d, l)
	darken(t, d)
	is(t, "added without power", j.Add([]byte{7}), api.ErrPower)
	if d.On() || d.Len() != len(b) {
		t.Fatal(d.On(), d.Len())
	}
	d.Crash(9)
	open(t, "behind a crash", d, l)
}

func TestThePowerGoesWithinAdd(t *testing.T) {
	l := bodies(3, 2)
	b := stood(l...)
	for _, body := range bodies(1, 7, 512) {
		whole := append(bytes.Clone(b), stood(body)...)
		d := laid(t, b, len(b))
		j := open(t, "opened", d, l)
		d.Fuse(0)
		is(t, "at Append", j.Add(body), api.ErrPower)
		if d.On() || d.Len() != len(b) || d.Safe() != len(b) {
			t.Fatalf("at Append: %v, %d bytes, %d safe", d.On(), d.Len(), d.Safe())
		}
		d = laid(t, b, len(b))
		j = open(t, "opened", d, l)
		d.Fuse(1)
		is(t, "at Sync", j.Add(body), api.ErrPower)
		if d.On() || d.Len() != len(whole) || d.Safe() != len(b) {
			t.Fatalf("at Sync: %v, %d bytes, %d safe", d.On(), d.Len(), d.Safe())
		}
		d = laid(t, b, len(b))
		j = open(t, "opened", d, l)
		d.Fuse(2)
		is(t, "behind Sync", j.Add(body), api.OK)
		has(t, "behind Sync", d, whole, len(whole))
		burns(t, "behind Sync", d, 0)
	}
}

// P7.3.

// life opens a disk, that must have just these records, and adds others until the power goes; it gives
// those whose Add told OK, with those ahead, and the one that was being added, if there was one.
func life(t *testing.T, d *disk.Disk, l, more [][]byte, fuse int) (kept [][]byte, last []byte) {
	t.Helper()
	j := open(t, "a life begins", d, l)
	d.Fuse(fuse)
	kept = slices.Clone(l)
	for _, body := range more {
		if e := j.Add(body); e != api.OK {
			is(t, "the power goes", e, api.ErrPower)
			return kept, body
		}
		kept = append(kept, body)
		if j.Len() != len(kept) {
			t.Fatalf("%d records, want %d", j.Len(), len(kept))
		}
	}
	return kept, nil
}

// behind gives the records that must be there behind a crash that kept so many bytes of the one that was
// being added.
func behind(kept [][]byte, last []byte, stayed int) [][]byte {
	if last != nil && stayed == len(last)+10 {
		return append(slices.Clone(kept), last)
	}
	return kept
}

func TestWhereverThePowerGoes(t *testing.T) {
	more := bodies(1, 3, 8, 2, 30, 5)
	for fuse := range 2*len(more) + 2 {
		for keep := range 42 {
			d := disk.New()
			kept, last := life(t, d, nil, more, fuse)
			if len(kept) != min(fuse/2, len(more)) {
				t.Fatalf("a fuse of %d: %s", fuse, told(kept))
			}
			l := behind(kept, last, d.Crash(keep))
			what := fmt.Sprint("a fuse of ", fuse, ", ", keep, " kept")
			j := open(t, what, d, l)
			b := stood(l...)
			has(t, what, d, b, len(b))
			is(t, what+": it goes on", j.Add([]byte{9, 9}), api.OK)
			d.Crash(0)
			open(t, what+", and one more", d, append(slices.Clone(l), []byte{9, 9}))
		}
	}
}

func TestTheRecordThatWasBeingAdded(t *testing.T) {
	for _, n := range lengths {
		l, last := bodies(4, n), row(n)
		for keep := -1; keep <= n+12; keep++ {
			d := disk.New()
			j := open(t, "new", d, nil)
			for _, body := range l {
				is(t, "added", j.Add(body), api.OK)
			}
			d.Fuse(1)
			is(t, "the power goes", j.Add(last), api.ErrPower)
			d.Crash(keep)
			what := fmt.Sprint("of ", n, ", ", keep, " kept")
			if keep < n+10 {
				open(t, what, d, l)
				continue
			}
			open(t, what, d, append(slices.Clone(l), last))
		}
	}
}

// Where a crash kept a piece, and then the power goes within Open, once and again.
func TestThePowerGoesBehindACrash(t *testing.T) {
	l := bodies(4, 6)
	for keep := range 19 {
		d := disk.New()
		kept, last := life(t, d, nil, append(slices.Clone(l), row(9)), 5)
		if !alike(kept, l) || last == nil {
			t.Fatal(told(kept))
		}
		stayed := d.Crash(keep)
		for range 3 {
			d.Fuse(0)
			if stayed == 0 || stayed == 19 {
				open(t, fmt.Sprint(keep, " kept"), d, behind(l, last, stayed))
				continue
			}
			refused(t, fmt.Sprint(keep, " kept"), d, api.ErrPower)
			if n := d.Crash(0); n != 0 {
				t.Fatal(n, " stayed")
			}
		}
		d.Crash(0)
		d.Fuse(1)
		open(t, fmt.Sprint(keep, " kept, opened"), d, behind(l, last, stayed))
		d.Crash(0)
		life(t, d, behind(l, last, stayed), bodies(2, 2), -1)
	}
}

func TestAnyLives(t *testing.T) {
	r := rand.New(rand.NewSource(5))
	for range 400 {
		d := disk.New()
		var l [][]byte
		for range 12 {
			var more [][]byte
			for range r.Intn(6) {
				more = append(more, drawn(r, 1+r.Intn(1<<r.Intn(10))))
			}
			kept, last := life(t, d, l, more, r.Intn(14)-1)
			if d.On() && r.Intn(3) == 0 {
				d.Fuse(-1)
				l = kept
				continue // no crash: opened anew as it is
			}
			stayed := d.Crash(r.Intn(1 << r.Intn(10)))
			if last == nil && stayed != 0 {
				t.Fatal(stayed, " bytes weren't safe, but all were told OK")
			}
			l = behind(kept, last, stayed)
			for d.Fuse(0); r.Intn(3) == 0; d.Fuse(0) { // without a fuse left Open cuts nothing off
				if _, _, e := journal.Open(d); e == api.ErrPower {
					d.Crash(r.Intn(20))
				}
			}
			d.Fuse(-1)
		}
		open(t, "at the end", d, l)
	}
}

func TestAJournalInUseOfAFullDisk(t *testing.T) {
	const n = 500
	d := disk.New()
	j := open(t, "new", d, nil)
	body := row(n)
	for i := range most / (n + 10) {
		body[0] = byte(i)
		is(t, "added", j.Add(body), api.OK)
	}
	is(t, "no room", j.Add(body), api.ErrFull)
	d.Crash(0)
	j, l, e := journal.Open(d)
	if e != api.OK || j.Len() != most/(n+10) || len(l) != j.Len() {
		t.Fatal(told(l), e)
	}
	for i := range l {
		if body[0] = byte(i); !bytes.Equal(l[i], body) {
			t.Fatal(i, l[i])
		}
	}
	is(t, "what has room", j.Add(row(most%(n+10)-10)), api.OK)
	is(t, "no room", j.Add([]byte{1}), api.ErrFull)
}

// P7.4.

func TestBitsTurnedInOneByteAreRot(t *testing.T) {
	for _, l := range [][][]byte{
		bodies(1), bodies(2, 1, 3), bodies(5, 40), {{0}}, {{0}, {0, 0}}, {{255, 255, 255, 255}}, {make([]byte, 32)}, {stood([]byte{7})},
	} {
		b := stood(l...)
		for at := range b {
			for by := 1; by < 256; by++ {
				b[at] ^= byte(by)
				rotten(t, fmt.Sprint("byte ", at, " of ", len(b), " turned by ", by), b)
				b[at] ^= byte(by)
			}
		}
		reads(t, "all turned back", b, l, api.OK)
	}
}

func TestBitsTurnedInOneByteOfLongRecords(t *testing.T) {
	r := rand.New(rand.NewSource(6))
	for _, l := range [][][]byte{bodies(512), bodies(256, 511), bodies(1, 512, 255, 257)} {
		b := stood(l...)
		for at := range b {
			for _, by := range []byte{1, 2, 64, 128, 255, byte(1 + r.Intn(255))} {
				b[at] ^= by
				rotten(t, fmt.Sprint("byte ", at, " of ", len(b), " turned by ", by), b)
				b[at] ^= by
			}
		}
	}
}

func TestBitsTurnedOnADiskAreRot(t *testing.T) {
	d := disk.New()
	l := bodies(3, 20, 1, 6)
	life(t, d, nil, l, -1)
	d.Crash(0)
	for at := range d.Len() {
		for _, by := range []byte{1, 4, 16, 128, 255} {
			what := fmt.Sprint("byte ", at, " turned by ", by)
			is(t, what, d.Turn(at, by), api.OK)
			refused(t, what, d, api.ErrRot)
			is(t, what, d.Turn(at, by), api.OK)
		}
	}
	j := open(t, "all turned back", d, l)
	is(t, "added", j.Add([]byte{4}), api.OK)
}

// P2, K5: what is handed in, and what is told.

func TestWhatIsHandedInIsNeitherChangedNorKept(t *testing.T) {
	for _, n := range lengths {
		room := row(n + 40) // there is room behind: nothing may be written there, either
		body := room[:n]
		d := disk.New()
		j := open(t, "new", d, nil)
		b, e := journal.Record(body)
		is(t, "a record", e, api.OK)
		is(t, "added", j.Add(body), api.OK)
		if !bytes.Equal(room, row(n+40)) {
			t.Fatalf("what was handed in is changed: %v", room)
		}
		clear(room)
		if !bytes.Equal(b, stood(row(n))) {
			t.Fatalf("a record shares memory with its body: %v", b)
		}
		is(t, "added", j.Add([]byte{5}), api.OK)
		open(t, "what was handed in is cleared", d, [][]byte{row(n), {5}})
	}
}

func TestWhatIsReadIsNeitherChangedNorKept(t *testing.T) {
	l := bodies(3, 1, 512, 8)
	for _, torn := range []int{0, 2, 6, 12} {
		b := append(stood(l...), stood(row(9))[:torn]...)
		room := append(bytes.Clone(b), row(40)...)
		got, n, e := journal.Read(room[:len(b)])
		if e != api.OK || n != len(b)-torn || !bytes.Equal(room[:len(b)], b) || !bytes.Equal(room[len(b):], row(40)) {
			t.Fatalf("%d bytes, error %d: %v", n, e, room)
		}
		clear(room)
		if !alike(got, l) {
			t.Fatalf("records share memory with what was read: %s", told(got))
		}
	}
}

// scribble writes over all memory of records, also behind their ends.
func scribble(l [][]byte) {
	for _, b := range l {
		b = b[:cap(b)]
		for i := range b {
			b[i] = 99
		}
	}
}

func TestRecordsMayBeWrittenOver(t *testing.T) {
	first, _ := journal.Record([]byte{7, 8})
	second, _ := journal.Record([]byte{7, 8})
	scribble([][]byte{first})
	if !bytes.Equal(second, stood([]byte{7, 8})) {
		t.Fatalf("two answers share memory: %v", second)
	}
}

func TestWhatReadTellsMayBeWrittenOver(t *testing.T) {
	l := bodies(3, 1, 512, 8, 3)
	b := stood(l...)
	for i := range l {
		got, _, _ := journal.Read(b)
		other, _, _ := journal.Read(b)
		scribble(got[i : i+1])
		if !bytes.Equal(b, stood(l...)) {
			t.Fatal("an answer shares memory with what was read")
		}
		if !alike(other, l) {
			t.Fatal("two answers share memory")
		}
		for k := range got {
			if k != i && !bytes.Equal(got[k], l[k]) {
				t.Fatalf("record %d shares memory with %d", k, i)
			}
		}
	}
}

func TestWhatOpenTellsMayBeWrittenOver(t *testing.T) {
	l := bodies(3, 1, 512, 8)
	b := stood(l...)
	d := laid(t, append(bytes.Clone(b), 1, 0, 3), 0)
	j, got, e := journal.Open(d)
	is(t, "opened", e, api.OK)
	scribble(got)
	clear(got[:cap(got)])
	has(t, "the answer written over", d, b, 0)
	if j.Len() != len(l) {
		t.Fatal(j.Len(), " records")
	}
	is(t, "added", j.Add([]byte{5}), api.OK)
	open(t, "added", d, append(l, []byte{5}))
}

// P2, K6: answers hang on nothing but what is on the disk, and what was called.

func TestJournalsHaveNothingInCommon(t *testing.T) {
	a, b := disk.New(), disk.New()
	first, second := open(t, "one", a, nil), open(t, "another one", b, nil)
	is(t, "added", first.Add([]byte{1}), api.OK)
	is(t, "added", second.Add([]byte{2, 2}), api.OK)
	is(t, "added", first.Add([]byte{3}), api.OK)
	if first.Len() != 2 || second.Len() != 1 {
		t.Fatal(first.Len(), second.Len())
	}
	darken(t, a)
	is(t, "added without power", first.Add([]byte{4}), api.ErrPower)
	is(t, "added to the other one", second.Add([]byte{5}), api.OK)
	open(t, "the other one", b, [][]byte{{2, 2}, {5}})
	a.Crash(0)
	open(t, "the one", a, [][]byte{{1}, {3}})
}

func TestLenIsAskedAtWill(t *testing.T) {
	d := disk.New()
	j := open(t, "new", d, nil)
	d.Fuse(4)
	for i := range 2 {
		for range 5 {
			if j.Len() != i {
				t.Fatal(j.Len(), " records, want ", i)
			}
		}
		is(t, "added", j.Add([]byte{9}), api.OK)
	}
	burns(t, "asked", d, 0)
}

func TestTheSameAnswersToTheSame(t *testing.T) {
	story := func(seed int64) string {
		r := rand.New(rand.NewSource(seed))
		d := disk.New()
		var answers []any
		for range 12 {
			j, l, e := journal.Open(d)
			answers = append(answers, l, e, j == nil)
			d.Fuse(r.Intn(12) - 2)
			for range r.Intn(5) {
				body := drawn(r, r.Intn(9))
				b, e := journal.Record(body)
				answers = append(answers, b, e)
				if j == nil {
					continue
				}
				e = j.Add(body)
				answers = append(answers, e, j.Len())
				if e == api.ErrPower {
					j = nil // it is to be opened anew
				}
			}
			answers = append(answers, d.Len(), d.Safe(), d.Crash(r.Intn(20)))
			d.Turn(r.Intn(2000), byte(r.Intn(3)))
		}
		return fmt.Sprint(answers...)
	}
	var first []string
	for seed := range 50 {
		first = append(first, story(int64(seed)))
	}
	for seed := 49; seed >= 0; seed-- {
		if got := story(int64(seed)); got != first[seed] {
			t.Fatalf("first %s, then %s", first[seed], got)
		}
	}
}
