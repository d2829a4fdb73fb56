package disk_test

import (
	"bytes"
	"fmt"
	"math"
	"math/rand"
	"testing"

	"quidnunc/api"
	"quidnunc/disk"
)

const most = 1 << 20 // bytes of a disk

// row gives so many bytes, of which no two near ones are alike.
func row(n int) []byte {
	b := make([]byte, n)
	for i := range b {
		b[i] = byte(1 + i%251)
	}
	return b
}

// is tells of an error that isn't the one that it should be.
func is(t *testing.T, what string, got, want api.Errno) {
	t.Helper()
	if got != want {
		t.Fatalf("%s: error %d, want %d", what, got, want)
	}
}

// with gives a disk with power and without a fuse, which has bytes, the first of which are safe.
func with(t *testing.T, b []byte, safe int) *disk.Disk {
	t.Helper()
	d := disk.New()
	is(t, "the safe ones appended", d.Append(b[:safe]), api.OK)
	is(t, "synced", d.Sync(), api.OK)
	is(t, "the others appended", d.Append(b[safe:]), api.OK)
	stands(t, "laid", d, b, safe)
	return d
}

// darken takes a disk's power.
func darken(t *testing.T, d *disk.Disk) {
	t.Helper()
	d.Fuse(0)
	is(t, "the power taken", d.Sync(), api.ErrPower)
	if d.On() {
		t.Fatal("the power is there yet")
	}
}

// counts holds what a disk tells, with power or without, against what it should.
func counts(t *testing.T, what string, d *disk.Disk, on bool, n, safe int) {
	t.Helper()
	if d.On() != on || d.Len() != n || d.Safe() != safe {
		t.Fatalf("%s: power %v, %d bytes, %d safe; want %v, %d, %d", what, d.On(), d.Len(), d.Safe(), on, n, safe)
	}
}

// stands holds a disk with power against the bytes that it should have.
func stands(t *testing.T, what string, d *disk.Disk, want []byte, safe int) {
	t.Helper()
	counts(t, what, d, true, len(want), safe)
	got, e := d.Read()
	is(t, what+": read", e, api.OK)
	if !bytes.Equal(got, want) {
		t.Fatalf("%s: %s, want %s", what, told(got), told(want))
	}
}

// isDark holds a disk without power against what it should tell, and lights it to see its bytes.
func isDark(t *testing.T, what string, d *disk.Disk, want []byte, safe int) {
	t.Helper()
	counts(t, what, d, false, len(want), safe)
	if b, e := d.Read(); e != api.ErrPower || len(b) != 0 {
		t.Fatalf("%s: read without power: %d bytes, error %d", what, len(b), e)
	}
	if n := d.Crash(math.MaxInt); n != len(want)-safe {
		t.Fatalf("%s: %d stayed, want %d", what, n, len(want)-safe)
	}
	stands(t, what+", with power", d, want, len(want))
}

// told gives bytes for a message, which needn't have a million.
func told(b []byte) string {
	if len(b) > 40 {
		return fmt.Sprint(len(b), " bytes ", b[:20], " to ", b[len(b)-20:])
	}
	return fmt.Sprint(b)
}

// hasFuse tells whether a disk has one, that lets so many changes through.
func hasFuse(t *testing.T, what string, d *disk.Disk, left int) {
	t.Helper()
	for i := range left {
		is(t, fmt.Sprint(what, ": change ", i), d.Sync(), api.OK)
	}
	is(t, what+": the change behind", d.Sync(), api.ErrPower)
	if d.On() {
		t.Fatal(what, ": the power is there yet")
	}
}

// hasNoFuse tells whether a disk has none, by more changes than any fuse of these tests lets through.
func hasNoFuse(t *testing.T, what string, d *disk.Disk) {
	t.Helper()
	for range 300 {
		is(t, what+": a change", d.Sync(), api.OK)
	}
	if !d.On() {
		t.Fatal(what, ": the power is gone")
	}
}

// far are numbers that are far from all that a disk may have.
var far = []int{math.MinInt, math.MinInt + 1, -1 << 32, -most, most + 1, 1 << 32, 1<<32 + 1, math.MaxInt - 1, math.MaxInt}

// changes are the calls that burn a fuse, each of which may be done on a disk with a byte or more.
var changes = []struct {
	name string
	do   func(d *disk.Disk) api.Errno
}{
	{"Append", func(d *disk.Disk) api.Errno { return d.Append([]byte{9, 8}) }},
	{"Append of none", func(d *disk.Disk) api.Errno { return d.Append(nil) }},
	{"Sync", func(d *disk.Disk) api.Errno { return d.Sync() }},
	{"Trim", func(d *disk.Disk) api.Errno { return d.Trim(1) }},
	{"Trim to all", func(d *disk.Disk) api.Errno { return d.Trim(d.Len()) }},
}

// faults are calls of which each has an error, whatever a disk has, and what it is.
var faults = []struct {
	name string
	do   func(d *disk.Disk) api.Errno
	code api.Errno
}{
	{"Append of too many", func(d *disk.Disk) api.Errno { return d.Append(make([]byte, most+1)) }, api.ErrFull},
	{"Append of one too many", func(d *disk.Disk) api.Errno { return d.Append(make([]byte, most+1-d.Len())) }, api.ErrFull},
	{"Trim to -1", func(d *disk.Disk) api.Errno { return d.Trim(-1) }, api.ErrRange},
	{"Trim to one more", func(d *disk.Disk) api.Errno { return d.Trim(d.Len() + 1) }, api.ErrRange},
	{"Trim to the least", func(d *disk.Disk) api.Errno { return d.Trim(math.MinInt) }, api.ErrRange},
	{"Trim to the greatest", func(d *disk.Disk) api.Errno { return d.Trim(math.MaxInt) }, api.ErrRange},
}

// P6.1: New.

func TestNew(t *testing.T) {
	d := disk.New()
	stands(t, "new", d, nil, 0)
	hasNoFuse(t, "new", d)
	if disk.MaxBytes != most {
		t.Error(disk.MaxBytes)
	}
	if n := disk.New().Crash(5); n != 0 {
		t.Error("of no bytes ", n, " stayed")
	}
}

func TestDisksHaveNothingInCommon(t *testing.T) {
	a, b := with(t, row(6), 3), with(t, row(6), 3)
	a.Append([]byte{7})
	a.Turn(0, 255)
	a.Trim(2)
	stands(t, "the other one, behind changes", b, row(6), 3)
	darken(t, a)
	hasNoFuse(t, "the other one", b)
	stands(t, "a third one", disk.New(), nil, 0)
}

// P6.1: Append.

func TestAppend(t *testing.T) {
	d := disk.New()
	var want []byte
	for _, b := range [][]byte{{1}, nil, {2, 3}, {}, {0}, {255, 0, 255}, row(600), {1}} {
		is(t, fmt.Sprint(told(b), " appended"), d.Append(b), api.OK)
		want = append(want, b...)
		stands(t, told(b)+" appended", d, want, 0)
	}
}

func TestWhatIsAppendedIsNotSafe(t *testing.T) {
	d := with(t, row(5), 5)
	is(t, "appended", d.Append([]byte{7, 7}), api.OK)
	stands(t, "appended", d, append(row(5), 7, 7), 5)
	is(t, "none appended", d.Append(nil), api.OK)
	stands(t, "none appended", d, append(row(5), 7, 7), 5)
	d.Crash(0)
	stands(t, "behind a crash", d, row(5), 5)
}

func TestAppendToTheLimit(t *testing.T) {
	for _, ahead := range []int{0, 1, 1000, most / 2, most - 1, most} {
		d := with(t, row(ahead), ahead/2)
		is(t, fmt.Sprint("one too many behind ", ahead), d.Append(make([]byte, most-ahead+1)), api.ErrFull)
		is(t, fmt.Sprint("far too many behind ", ahead), d.Append(make([]byte, 2*most)), api.ErrFull)
		stands(t, fmt.Sprint("none of too many, behind ", ahead), d, row(ahead), ahead/2)
		is(t, fmt.Sprint("just as many, behind ", ahead), d.Append(row(most)[ahead:]), api.OK)
		stands(t, fmt.Sprint("just as many, behind ", ahead), d, row(most), ahead/2)
		is(t, "none, to a full disk", d.Append(nil), api.OK)
		is(t, "one, to a full disk", d.Append([]byte{1}), api.ErrFull)
		stands(t, "full", d, row(most), ahead/2)
	}
}

func TestFullIsFullOnlySoLong(t *testing.T) {
	d := with(t, row(most), most-3)
	is(t, "one to a full disk", d.Append([]byte{1}), api.ErrFull)
	is(t, "trimmed", d.Trim(most-2), api.OK)
	is(t, "three to room for two", d.Append([]byte{1, 2, 3}), api.ErrFull)
	is(t, "two to room for two", d.Append([]byte{4, 5}), api.OK)
	is(t, "one to a full disk again", d.Append([]byte{1}), api.ErrFull)
	stands(t, "full again", d, append(row(most-2), 4, 5), most-3)
	d.Crash(1)
	is(t, "three behind a crash", d.Append([]byte{6, 7, 8}), api.ErrFull)
	is(t, "two behind a crash", d.Append([]byte{6, 7}), api.OK)
	stands(t, "full behind a crash", d, append(row(most-2), 6, 7), most-2)
}

func TestAppendInSmallPieces(t *testing.T) {
	d := disk.New()
	want := row(most)
	for at := 0; at < most; {
		n := min(1+at%977, most-at)
		is(t, fmt.Sprint(n, " behind ", at), d.Append(want[at:at+n]), api.OK)
		at += n
	}
	stands(t, "full", d, want, 0)
	is(t, "one more", d.Append([]byte{1}), api.ErrFull)
}

// P6.1: Sync.

func TestSync(t *testing.T) {
	d := disk.New()
	is(t, "nothing synced", d.Sync(), api.OK)
	stands(t, "nothing synced", d, nil, 0)
	for i := range 5 {
		is(t, "appended", d.Append(row(7)[i:i+2]), api.OK)
		for range 2 { // once more: all of them are safe already
			is(t, "synced", d.Sync(), api.OK)
			counts(t, "synced", d, true, 2*i+2, 2*i+2)
		}
	}
	d.Crash(0)
	stands(t, "behind a crash", d, []byte{1, 2, 2, 3, 3, 4, 4, 5, 5, 6}, 10)
}

func TestSyncOfAFullDisk(t *testing.T) {
	d := with(t, row(most), 0)
	is(t, "synced", d.Sync(), api.OK)
	d.Crash(-1)
	stands(t, "behind a crash", d, row(most), most)
}

// P6.1: Trim.

func TestTrim(t *testing.T) {
	for n := range 9 {
		for safe := range 9 {
			d := with(t, row(8), safe)
			what := fmt.Sprint("to ", n, " of 8, ", safe, " of which are safe")
			is(t, what, d.Trim(n), api.OK)
			stands(t, what, d, row(n), min(n, safe))
			is(t, what+", appended behind", d.Append([]byte{100, 101}), api.OK)
			want := append(row(n), 100, 101)
			stands(t, what+", appended behind", d, want, min(n, safe)) // not safe, though those were that stood there
			d.Crash(0)
			stands(t, what+", behind a crash", d, row(min(n, safe)), min(n, safe))
		}
	}
}

func TestTrimToWhatThereIsNot(t *testing.T) {
	for _, n := range []int{0, 1, 8, 1000} {
		for _, to := range append([]int{-1, -2, -n - 1, n + 1, n + 2, 2*n + 1, most}, far...) {
			d := with(t, row(n), n/2)
			what := fmt.Sprint("to ", to, " of ", n)
			is(t, what, d.Trim(to), api.ErrRange)
			stands(t, what, d, row(n), n/2)
			hasNoFuse(t, what, d)
		}
	}
}

func TestTrimOfNone(t *testing.T) {
	d := disk.New()
	is(t, "none to 0", d.Trim(0), api.OK)
	stands(t, "none to 0", d, nil, 0)
	is(t, "none to 1", d.Trim(1), api.ErrRange)
}

func TestWhatWasTrimmedIsGone(t *testing.T) {
	d := with(t, row(8), 5)
	is(t, "trimmed", d.Trim(3), api.OK)
	is(t, "to what there was", d.Trim(5), api.ErrRange)
	is(t, "a turn of what there was", d.Turn(3, 1), api.ErrRange)
	if n := d.Crash(9); n != 0 {
		t.Error(n, " stayed")
	}
	stands(t, "behind a crash", d, row(3), 3)
	is(t, "synced", d.Sync(), api.OK)
	stands(t, "synced", d, row(3), 3)
}

func TestTrimOfAFullDisk(t *testing.T) {
	d := with(t, row(most), most)
	is(t, "to one more", d.Trim(most+1), api.ErrRange)
	is(t, "to all", d.Trim(most), api.OK)
	stands(t, "to all", d, row(most), most)
	is(t, "to one less", d.Trim(most-1), api.OK)
	stands(t, "to one less", d, row(most-1), most-1)
	is(t, "to all there were", d.Trim(most), api.ErrRange)
	is(t, "to none", d.Trim(0), api.OK)
	stands(t, "to none", d, nil, 0)
}

// P6.1: Read.

func TestRead(t *testing.T) {
	for _, n := range []int{0, 1, 2, 255, 256, 5000, most - 1, most} {
		for _, safe := range []int{0, n / 2, n} {
			d := with(t, row(n), safe)
			for range 2 { // a reading takes nothing away
				stands(t, fmt.Sprint(n, ", ", safe, " of which are safe"), d, row(n), safe)
			}
		}
	}
}

// P6.1, P6.2: the fuse.

func TestFuse(t *testing.T) {
	for n := range 8 {
		for _, c := range changes {
			d := with(t, row(4), 2)
			d.Fuse(n)
			counts(t, "a fuse laid", d, true, 4, 2) // the power isn't taken by the fuse alone, also if none is left
			for i := range n {
				is(t, fmt.Sprint(c.name, " ", i, " of ", n), c.do(d), api.OK)
			}
			b, e := d.Read()
			is(t, "read, the fuse burnt down", e, api.OK)
			safe := d.Safe()
			is(t, fmt.Sprint(c.name, " behind ", n), c.do(d), api.ErrPower)
			isDark(t, fmt.Sprint(c.name, " behind ", n), d, b, safe) // so it wasn't done
		}
	}
}

func TestFuseIsOneForAllCalls(t *testing.T) {
	for first := range changes {
		for second := range changes {
			d := with(t, row(4), 2)
			d.Fuse(2)
			is(t, "the first", changes[first].do(d), api.OK)
			is(t, "the second", changes[second].do(d), api.OK)
			is(t, "the third", changes[(first+second)%len(changes)].do(d), api.ErrPower)
			counts(t, "behind the third", d, false, d.Len(), d.Safe())
		}
	}
}

func TestNoFuse(t *testing.T) {
	for _, n := range []int{-1, -2, -7, -most, -1 << 32, math.MinInt, math.MinInt + 1} {
		d := with(t, row(4), 2)
		d.Fuse(n)
		hasNoFuse(t, fmt.Sprint("of ", n), d)
	}
	for _, n := range []int{1 << 20, 1 << 32, math.MaxInt - 1, math.MaxInt} {
		d := with(t, row(4), 2)
		d.Fuse(n)
		hasNoFuse(t, fmt.Sprint("of very many: ", n), d)
	}
}

func TestAGreatFuse(t *testing.T) {
	const n = 1<<16 + 1
	d := disk.New()
	d.Fuse(n)
	hasFuse(t, "a great one", d, n)
}

func TestFuseLaidAnew(t *testing.T) {
	for _, first := range []int{-1, 0, 1, 3, 6} {
		for burnt := range 7 {
			if first >= 0 && burnt > first {
				continue
			}
			for _, second := range []int{0, 1, 2, 5, 9} {
				d := disk.New()
				d.Fuse(first)
				for range burnt {
					is(t, "burnt", d.Sync(), api.OK)
				}
				d.Fuse(second)
				hasFuse(t, fmt.Sprint(second, " where ", burnt, " of ", first, " were burnt"), d, second)
			}
			d := disk.New()
			d.Fuse(first)
			for range burnt {
				is(t, "burnt", d.Sync(), api.OK)
			}
			d.Fuse(-1)
			hasNoFuse(t, fmt.Sprint("none where ", burnt, " of ", first, " were burnt"), d)
		}
	}
}

func TestFaultsDoNotBurnTheFuse(t *testing.T) {
	for _, f := range faults {
		for n := range 4 {
			d := with(t, row(4), 2)
			d.Fuse(n)
			for range 5 {
				is(t, f.name, f.do(d), f.code) // also where none is left: it is named ahead of the fuse's
				stands(t, f.name, d, row(4), 2)
			}
			for range n {
				is(t, "a change", d.Sync(), api.OK)
				is(t, f.name+" between changes", f.do(d), f.code)
			}
			is(t, "the change behind", d.Sync(), api.ErrPower)
			is(t, f.name+" without power", f.do(d), api.ErrPower)
		}
	}
}

func TestOnlyChangesBurnTheFuse(t *testing.T) {
	for n := range 4 {
		d := with(t, row(4), 2)
		d.Fuse(n)
		for range 20 {
			d.Read()
			d.On()
			d.Len()
			d.Safe()
			is(t, "turned", d.Turn(0, 1), api.OK)
			is(t, "not turned", d.Turn(4, 1), api.ErrRange)
		}
		stands(t, "behind all of them", d, row(4), 2)
		hasFuse(t, fmt.Sprint("of ", n), d, n)
	}
}

// P6.1: without power.

func TestWithoutPowerNothingIsDone(t *testing.T) {
	for n := range 6 {
		for safe := range n + 1 {
			for _, c := range changes {
				d := with(t, row(n), safe)
				darken(t, d)
				for range 3 {
					is(t, c.name+" without power", c.do(d), api.ErrPower)
				}
				isDark(t, c.name, d, row(n), safe)
			}
			for _, f := range faults {
				d := with(t, row(n), safe)
				darken(t, d)
				is(t, f.name+" without power", f.do(d), api.ErrPower)
				isDark(t, f.name, d, row(n), safe)
			}
		}
	}
}

func TestThePowerStaysAwayUntilACrash(t *testing.T) {
	d := with(t, row(6), 4)
	darken(t, d)
	for _, n := range []int{-1, 0, 1, 100, math.MaxInt, math.MinInt} {
		d.Fuse(n) // a fuse gives no power
		for _, c := range changes {
			is(t, fmt.Sprint(c.name, " behind a fuse of ", n), c.do(d), api.ErrPower)
		}
		d.Turn(5, 0)
		counts(t, fmt.Sprint("behind a fuse of ", n), d, false, 6, 4)
	}
	d.Fuse(3)
	isDark(t, "behind all of them", d, row(6), 4)
	hasNoFuse(t, "a fuse was laid without power, then came a crash", d)
}

func TestReadWithoutPower(t *testing.T) {
	for _, n := range []int{0, 1, 6} {
		d := with(t, row(n), n/2)
		darken(t, d)
		if b, e := d.Read(); e != api.ErrPower || len(b) != 0 {
			t.Error(b, e)
		}
	}
}

// P6.2: Crash.

func TestCrash(t *testing.T) {
	const n = 9
	for safe := range n + 1 {
		for _, keep := range append([]int{-1, -2, 0, 1, 2, 3, n - safe - 1, n - safe, n - safe + 1, n, n + 1, most}, far...) {
			for _, dark := range []bool{false, true} {
				d := with(t, row(n), safe)
				if dark {
					darken(t, d)
				}
				stay := 0
				for stay < keep && stay < n-safe {
					stay++
				}
				what := fmt.Sprint(keep, " kept of ", n, ", ", safe, " of which are safe")
				if got := d.Crash(keep); got != stay {
					t.Fatalf("%s: %d stayed, want %d", what, got, stay)
				}
				stands(t, what, d, row(safe+stay), safe+stay)
				hasNoFuse(t, what, d)
				if got := d.Crash(keep); got != 0 { // all of them are safe now
					t.Fatalf("%s, once more: %d stayed", what, got)
				}
				stands(t, what+", once more", d, row(safe+stay), safe+stay)
			}
		}
	}
}

func TestCrashTakesAFuse(t *testing.T) {
	for _, n := range []int{0, 1, 2, 250} {
		for _, keep := range []int{-1, 0, 1, 9} {
			d := with(t, row(6), 4)
			d.Fuse(n)
			d.Crash(keep)
			hasNoFuse(t, fmt.Sprint("of ", n, ", behind a crash"), d)
		}
	}
}

func TestWhatComesBehindACrash(t *testing.T) {
	d := with(t, row(6), 2)
	d.Crash(1)
	is(t, "appended", d.Append([]byte{50, 51}), api.OK)
	stands(t, "appended", d, []byte{1, 2, 3, 50, 51}, 3) // behind what stayed, and not safe
	d.Crash(1)
	stands(t, "a second crash", d, []byte{1, 2, 3, 50}, 4)
}

func TestExample(t *testing.T) {
	d := disk.New()
	is(t, "appended", d.Append([]byte{1, 2, 3}), api.OK)
	is(t, "synced", d.Sync(), api.OK)
	is(t, "appended", d.Append([]byte{4, 5}), api.OK)
	if n := d.Crash(1); n != 1 {
		t.Error(n)
	}
	stands(t, "behind the crash", d, []byte{1, 2, 3, 4}, 4)
}

// P6.2: Turn.

func TestTurn(t *testing.T) {
	const n = 7
	for at := range n {
		for safe := range n + 1 {
			for _, by := range []byte{0, 1, 2, 128, 170, 255} {
				d := with(t, row(n), safe)
				want := row(n)
				want[at] ^= by
				is(t, "turned", d.Turn(at, by), api.OK)
				stands(t, fmt.Sprint(at, " turned by ", by), d, want, safe) // as safe as it was
				is(t, "turned back", d.Turn(at, by), api.OK)
				stands(t, "turned back", d, row(n), safe)
				is(t, "turned again", d.Turn(at, by), api.OK)
				darken(t, d)
				want[at] ^= 64
				is(t, "turned without power", d.Turn(at, 64), api.OK)
				isDark(t, fmt.Sprint(at, " turned by ", by, ", without power"), d, want, safe)
			}
		}
	}
}

func TestTurnByAll(t *testing.T) {
	d := with(t, []byte{0, 90, 255}, 3)
	for by := range 256 {
		is(t, "turned", d.Turn(1, byte(by)), api.OK)
		stands(t, fmt.Sprint("by ", by), d, []byte{0, 90 ^ byte(by), 255}, 3)
		is(t, "turned back", d.Turn(1, byte(by)), api.OK)
	}
}

func TestTurnOfWhatThereIsNot(t *testing.T) {
	for _, n := range []int{0, 1, 8} {
		for _, at := range append([]int{-1, -2, -n, n, n + 1, most - 1, most}, far...) {
			if at == 0 && n > 0 {
				continue
			}
			for _, by := range []byte{0, 1, 255} {
				d := with(t, row(n), n/2)
				what := fmt.Sprint(at, " of ", n, " by ", by)
				is(t, what, d.Turn(at, by), api.ErrRange)
				stands(t, what, d, row(n), n/2)
				darken(t, d)
				is(t, what+", without power", d.Turn(at, by), api.ErrRange)
				isDark(t, what, d, row(n), n/2)
			}
		}
	}
}

func TestTurnOfAFullDisk(t *testing.T) {
	d := with(t, row(most), most)
	want := row(most)
	for _, at := range []int{0, most / 2, most - 1} {
		want[at] ^= 3
		is(t, "turned", d.Turn(at, 3), api.OK)
	}
	is(t, "one behind the last", d.Turn(most, 3), api.ErrRange)
	stands(t, "turned", d, want, most)
}

func TestTurnIsNotUndone(t *testing.T) {
	d := with(t, row(5), 3)
	d.Turn(0, 255)
	d.Turn(3, 255)
	is(t, "synced", d.Sync(), api.OK)
	d.Crash(0)
	stands(t, "synced, and a crash", d, []byte{254, 2, 3, 251, 5}, 5)
	is(t, "trimmed", d.Trim(3), api.OK)
	is(t, "appended", d.Append([]byte{4}), api.OK)
	stands(t, "another one in its place", d, []byte{254, 2, 3, 4}, 3)
}

// P6.1, P6.2, and P1, K2, K4: whatever is called, in whatever order.

// plain is a disk as the document has it: each byte is safe, or isn't, by itself.
type plain struct {
	all   []byte
	safe  []bool
	on    bool
	fused bool
	left  int
}

func (p *plain) howManySafe() int {
	n := 0
	for _, s := range p.safe {
		if s {
			n++
		}
	}
	return n
}

// refuses tells the error of a call that has the error code, if any, ahead of the fuse's.
func (p *plain) refuses(code api.Errno) api.Errno {
	if !p.on {
		return api.ErrPower
	}
	if code != api.OK {
		return code
	}
	if p.fused && p.left == 0 {
		p.on = false
		return api.ErrPower
	}
	p.left--
	return api.OK
}

func (p *plain) add(b []byte) api.Errno {
	code := api.OK
	if len(p.all)+len(b) > most {
		code = api.ErrFull
	}
	if code = p.refuses(code); code == api.OK {
		p.all = append(p.all, b...)
		p.safe = append(p.safe, make([]bool, len(b))...)
	}
	return code
}

func (p *plain) sync() api.Errno {
	code := p.refuses(api.OK)
	if code == api.OK {
		for i := range p.safe {
			p.safe[i] = true
		}
	}
	return code
}

func (p *plain) trim(n int) api.Errno {
	code := api.OK
	if n < 0 || n > len(p.all) {
		code = api.ErrRange
	}
	if code = p.refuses(code); code == api.OK {
		p.all, p.safe = p.all[:n], p.safe[:n]
	}
	return code
}

func (p *plain) turn(at int, by byte) api.Errno {
	if at < 0 || at >= len(p.all) {
		return api.ErrRange
	}
	p.all[at] ^= by
	return api.OK
}

func (p *plain) crash(keep int) int {
	var all []byte
	stayed := 0
	for i, v := range p.all {
		if !p.safe[i] {
			if stayed >= keep {
				break
			}
			stayed++
		}
		all = append(all, v)
	}
	*p = plain{all: all, safe: make([]bool, len(all)), on: true}
	for i := range p.safe {
		p.safe[i] = true
	}
	return stayed
}

// near draws a number near what a disk has, or near 0, or far from both.
func near(r *rand.Rand, n int) int {
	switch r.Intn(8) {
	case 0:
		return far[r.Intn(len(far))]
	case 1, 2:
		return r.Intn(7) - 3
	case 3, 4, 5:
		return n - 3 + r.Intn(7)
	}
	return r.Intn(n + 1)
}

// tooMany are more bytes than a disk may have.
var tooMany = make([]byte, most+9)

// both calls a disk and the plain one, the call being drawn, and holds what they answer against each other.
func both(t *testing.T, r *rand.Rand, d *disk.Disk, p *plain) {
	t.Helper()
	switch r.Intn(9) {
	case 0, 1, 2:
		b := row(20)[r.Intn(10):][:r.Intn(7)]
		if r.Intn(9) == 0 {
			b = tooMany[:most-len(p.all)+1+r.Intn(3)]
		}
		is(t, fmt.Sprint(len(b), " appended to ", len(p.all)), d.Append(b), p.add(b))
	case 3:
		is(t, "synced", d.Sync(), p.sync())
	case 4:
		n := near(r, len(p.all))
		is(t, fmt.Sprint("trimmed to ", n), d.Trim(n), p.trim(n))
	case 5:
		at, by := near(r, len(p.all)), byte(r.Intn(256))
		is(t, fmt.Sprint(at, " turned"), d.Turn(at, by), p.turn(at, by))
	case 6:
		n := r.Intn(9) - 2
		d.Fuse(n)
		p.fused, p.left = n >= 0, n
	case 7:
		if p.on && r.Intn(4) > 0 {
			return
		}
		keep := near(r, len(p.all)-p.howManySafe())
		if got, want := d.Crash(keep), p.crash(keep); got != want {
			t.Fatalf("%d kept: %d stayed, want %d", keep, got, want)
		}
	case 8:
		if !p.on {
			b, e := d.Read()
			if e != api.ErrPower || len(b) != 0 {
				t.Fatalf("read without power: %d bytes, error %d", len(b), e)
			}
			return
		}
		stands(t, "read", d, p.all, p.howManySafe())
	}
	counts(t, "behind a call", d, p.on, len(p.all), p.howManySafe())
}

func TestAnyCallsInAnyOrder(t *testing.T) {
	r := rand.New(rand.NewSource(1))
	for range 3000 {
		d, p := disk.New(), &plain{on: true}
		for range 60 {
			both(t, r, d, p)
		}
		keep := near(r, 5)
		d.Crash(keep)
		p.crash(keep)
		stands(t, "at the end", d, p.all, len(p.all))
	}
}

func TestAnyCallsNearTheLimit(t *testing.T) {
	r := rand.New(rand.NewSource(2))
	for range 12 {
		d, p := disk.New(), &plain{on: true}
		b := row(most - r.Intn(5))
		is(t, "laid", d.Append(b), p.add(b))
		is(t, "synced", d.Sync(), p.sync())
		for range 40 {
			both(t, r, d, p)
		}
		d.Crash(2)
		p.crash(2)
		stands(t, "at the end", d, p.all, len(p.all))
	}
}

// P6.3.

// pieces appends pieces, and syncs behind each, until the power goes; it gives what a Sync that told OK
// made safe, and all that an Append that told OK laid.
func pieces(t *testing.T, d *disk.Disk, ahead []byte, n int) (safe, all []byte) {
	t.Helper()
	safe, all = bytes.Clone(ahead), bytes.Clone(ahead)
	for i := range n {
		b := bytes.Repeat([]byte{byte(10 + i)}, 1+i%3)
		if d.Append(b) == api.OK {
			all = append(all, b...)
		}
		if i%2 == 0 && d.Sync() == api.OK {
			safe = bytes.Clone(all)
		}
	}
	return safe, all
}

func TestWhatWasSafeIsThereBehindEveryCrash(t *testing.T) {
	for fuse := -1; fuse < 14; fuse++ {
		for keep := -1; keep < 9; keep++ {
			d := disk.New()
			var safe []byte
			for again := range 3 { // a crash behind a crash
				d.Fuse(fuse)
				must, may := pieces(t, d, safe, 8)
				stayed := d.Crash(keep)
				got, e := d.Read()
				what := fmt.Sprint("fuse ", fuse, ", ", keep, " kept, time ", again)
				is(t, what, e, api.OK)
				if !bytes.HasPrefix(got, must) || !bytes.HasPrefix(may, got) || len(got) != len(must)+stayed {
					t.Fatalf("%s: %v is there, %v was safe, %v laid, and %d stayed", what, got, must, may, stayed)
				}
				safe = got
			}
		}
	}
}

func TestWhatIsNotTrimmedOrTurnedStaysSafe(t *testing.T) {
	r := rand.New(rand.NewSource(3))
	for range 3000 {
		d := with(t, row(20), 12)
		safe := row(12)
		for range 15 {
			switch r.Intn(5) {
			case 0:
				d.Append(row(r.Intn(4)))
			case 1:
				n := r.Intn(d.Len() + 3)
				if d.Trim(n) == api.OK {
					safe = safe[:min(n, len(safe))]
				}
			case 2:
				at, by := r.Intn(d.Len()+2), byte(r.Intn(256))
				if d.Turn(at, by) == api.OK && at < len(safe) {
					safe[at] ^= by
				}
			case 3:
				d.Fuse(r.Intn(6) - 1)
			case 4:
				d.Crash(near(r, 4))
			}
			if d.Safe() < len(safe) {
				t.Fatalf("%d are safe, that were %d", d.Safe(), len(safe))
			}
		}
		d.Crash(-1)
		if b, e := d.Read(); e != api.OK || !bytes.HasPrefix(b, safe) {
			t.Fatalf("%v, error %d; %v was safe", b, e, safe)
		}
	}
}

// P2, K5: what is handed in, and what is answered.

func TestWhatIsHandedInIsNeitherChangedNorKept(t *testing.T) {
	for n := range 9 {
		for _, ahead := range []int{0, 1, 50} {
			d := with(t, row(ahead), ahead)
			room := row(20) // there is room behind: nothing may be written there, either
			b := room[:n]
			is(t, "appended", d.Append(b), api.OK)
			is(t, "more appended", d.Append([]byte{99, 98}), api.OK)
			is(t, "turned", d.Turn(d.Len()-1, 7), api.OK)
			if n > 0 {
				is(t, "the first turned", d.Turn(ahead, 255), api.OK)
				is(t, "and back", d.Turn(ahead, 255), api.OK)
			}
			if !bytes.Equal(room, row(20)) {
				t.Fatalf("what was handed in is changed: %v", room)
			}
			clear(room)
			stands(t, "what was handed in is cleared", d, append(append(row(ahead), row(n)...), 99, 98^7), ahead)
		}
	}
}

func TestWhatIsReadMayBeWrittenOver(t *testing.T) {
	for n := range 40 {
		d := with(t, row(n), n/2)
		first, _ := d.Read()
		second, _ := d.Read()
		clear(first[:cap(first)])
		stands(t, "an answer is cleared", d, row(n), n/2)
		if !bytes.Equal(second, row(n)) {
			t.Fatalf("two answers share memory: %v", second)
		}
		first = append(first[:0], make([]byte, 100)...)
		is(t, "appended", d.Append([]byte{9}), api.OK)
		stands(t, "an answer is appended to", d, append(row(n), 9), n/2)
		d.Trim(0)
		d.Append(make([]byte, n+1))
		if !bytes.Equal(second, row(n)) {
			t.Fatalf("an answer changed with the disk: %v", second)
		}
	}
}

// P2, K6: answers hang on nothing but what was called.
func TestTheSameAnswersToTheSame(t *testing.T) {
	story := func(seed int64) string {
		r := rand.New(rand.NewSource(seed))
		d := disk.New()
		var answers []any
		for range 40 {
			n := r.Intn(9) - 2
			b, e := d.Read()
			answers = append(answers, d.Append(row(max(n, 0))), d.Sync(), b, e, d.Append(row(3)), d.Trim(d.Len()-n), d.Turn(n, byte(n)), d.Len(), d.Safe(), d.On())
			if r.Intn(3) == 0 {
				answers = append(answers, d.Crash(n))
			}
			d.Fuse(n * 3)
		}
		return fmt.Sprint(answers...)
	}
	var first []string
	for seed := range 50 {
		first = append(first, story(int64(seed)))
	}
	for seed := 49; seed >= 0; seed-- {
		if got := story(int64(seed)); got != first[seed] {
			t.Fatalf("first %s, then %s", first[seed], got)
		}
	}
}
