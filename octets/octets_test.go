package octets_test

import (
	"bytes"
	"fmt"
	"math"
	"math/rand"
	"strings"
	"testing"

	"quidnunc/api"
	"quidnunc/octets"
)

// wrote fails the test where a writer hasn't put just these bytes, or has another error.
func wrote(t *testing.T, what string, w *octets.Writer, put []byte, code api.Errno) {
	t.Helper()
	if !bytes.Equal(w.Bytes(), put) || w.Err() != code {
		t.Errorf("%s: put %v, error %d; want %v, %d", what, w.Bytes(), w.Err(), put, code)
	}
}

// stands fails the test where a reader has another error, or other bytes left.
func stands(t *testing.T, what string, r *octets.Reader, left int, code api.Errno) {
	t.Helper()
	if r.Left() != left || r.Err() != code {
		t.Errorf("%s: left %d, error %d; want %d, %d", what, r.Left(), r.Err(), left, code)
	}
}

// most is the greatest number of a width.
func most(width int) uint64 { return math.MaxUint64 >> (64 - 8*width) }

// noWidths are widths that no number has.
var noWidths = []int{0, 9, -1, 64, 1 << 32, 1<<61 + 1, math.MaxInt, math.MinInt}

// P1.1: Number.

func TestPutNumber(t *testing.T) {
	for _, c := range []struct {
		v     uint64
		width int
		put   []byte
	}{
		{0, 1, []byte{0}},
		{255, 1, []byte{255}},
		{258, 2, []byte{2, 1}},
		{1, 4, []byte{1, 0, 0, 0}},
		{0x030201, 3, []byte{1, 2, 3}},
		{0x0807060504030201, 8, []byte{1, 2, 3, 4, 5, 6, 7, 8}},
	} {
		var w octets.Writer
		w.Number(c.v, c.width)
		wrote(t, fmt.Sprint(c.v, " in ", c.width), &w, c.put, api.OK)
	}
}

func TestPutNumberThatJustGoes(t *testing.T) {
	for width := 1; width <= 8; width++ {
		var w octets.Writer
		w.Number(most(width), width)
		wrote(t, fmt.Sprint("the greatest in ", width), &w, bytes.Repeat([]byte{255}, width), api.OK)
	}
}

func TestPutNumberThatDoesNotGo(t *testing.T) {
	for width := 1; width < 8; width++ {
		for _, v := range []uint64{most(width) + 1, 1 << 63, math.MaxUint64} {
			var w octets.Writer
			w.Number(7, 1).Number(v, width)
			wrote(t, fmt.Sprint(v, " in ", width), &w, []byte{7}, api.ErrRange)
		}
	}
}

func TestPutNumberWithoutWidth(t *testing.T) {
	for _, width := range noWidths {
		for _, v := range []uint64{0, math.MaxUint64} {
			var w octets.Writer
			w.Number(7, 1).Number(v, width)
			wrote(t, fmt.Sprint(v, " in ", width), &w, []byte{7}, api.ErrArg)
		}
	}
}

// P1.1: Flag, Text, Raw.

func TestPutFlag(t *testing.T) {
	var w octets.Writer
	w.Flag(true).Flag(false)
	wrote(t, "flags", &w, []byte{1, 0}, api.OK)
}

func TestPutText(t *testing.T) {
	for _, s := range []string{"", "ab", "\x00\xff\xc3", strings.Repeat("x", 128), strings.Repeat("x", 255)} {
		var w octets.Writer
		w.Text(s)
		wrote(t, fmt.Sprint("a text of ", len(s)), &w, append([]byte{byte(len(s))}, s...), api.OK)
	}
}

func TestPutTextTooLong(t *testing.T) {
	for _, n := range []int{256, 257, 511, 512, 70000} {
		var w octets.Writer
		w.Number(7, 1).Text(strings.Repeat("x", n))
		wrote(t, fmt.Sprint("a text of ", n), &w, []byte{7}, api.ErrRange)
	}
}

func TestPutRaw(t *testing.T) {
	var w octets.Writer
	w.Raw()
	wrote(t, "no part", &w, nil, api.OK)
	w.Raw(nil, []byte{})
	wrote(t, "empty parts", &w, nil, api.OK)
	w.Raw([]byte{1, 2}, nil, []byte{3}).Raw([]byte{4})
	wrote(t, "parts", &w, []byte{1, 2, 3, 4}, api.OK)
	long := bytes.Repeat([]byte{5}, 1000)
	var l octets.Writer
	l.Raw(long)
	wrote(t, "a long part", &l, long, api.OK)
}

// P1.1: all of them.

func TestZeroWriterHasPutNothing(t *testing.T) {
	var w octets.Writer
	wrote(t, "zero", &w, nil, api.OK)
}

func TestExample(t *testing.T) {
	var w octets.Writer
	w.Number(258, 2).Text("ab")
	wrote(t, "example", &w, []byte{2, 1, 2, 97, 98}, api.OK)
}

func TestPutAnswersTheWriter(t *testing.T) {
	var w octets.Writer
	for _, ahead := range []string{"without an error", "behind an error"} {
		if w.Number(1, 1) != &w || w.Flag(true) != &w || w.Text("a") != &w || w.Raw([]byte{1}) != &w {
			t.Error(ahead, ": another writer is answered")
		}
		if w.Number(1, 0) != &w || w.Text(strings.Repeat("x", 256)) != &w {
			t.Error(ahead, ": a call with an error answers another writer")
		}
	}
}

func TestNothingIsPutBehindAnError(t *testing.T) {
	long := strings.Repeat("x", 256)
	for _, first := range []struct {
		name string
		do   func(w *octets.Writer)
		code api.Errno
	}{
		{"no width", func(w *octets.Writer) { w.Number(1, 9) }, api.ErrArg},
		{"too great", func(w *octets.Writer) { w.Number(256, 1) }, api.ErrRange},
		{"too long", func(w *octets.Writer) { w.Text(long) }, api.ErrRange},
	} {
		for i, next := range []func(w *octets.Writer){
			func(w *octets.Writer) { w.Number(1, 1) },
			func(w *octets.Writer) { w.Flag(false) },
			func(w *octets.Writer) { w.Text("a") },
			func(w *octets.Writer) { w.Text("") },
			func(w *octets.Writer) { w.Raw([]byte{1}) },
			func(w *octets.Writer) { w.Number(1, 0) },
			func(w *octets.Writer) { w.Number(256, 1) },
			func(w *octets.Writer) { w.Text(long) },
		} {
			var w octets.Writer
			w.Number(7, 1)
			first.do(&w)
			next(&w)
			wrote(t, fmt.Sprint(first.name, ", then ", i), &w, []byte{7}, first.code)
		}
	}
}

func TestWriterSharesNothing(t *testing.T) {
	var w octets.Writer
	part := []byte{1, 2, 3}
	w.Raw(part)
	part[0] = 9
	wrote(t, "a part changed behind Raw", &w, []byte{1, 2, 3}, api.OK)

	one, other := w.Bytes(), w.Bytes()
	one[1] = 9
	_ = append(one, 8, 8, 8)
	if !bytes.Equal(other, []byte{1, 2, 3}) {
		t.Error("two answers of Bytes share memory: ", other)
	}
	wrote(t, "an answer changed", &w, []byte{1, 2, 3}, api.OK)
	w.Number(4, 1).Number(5, 1)
	if !bytes.Equal(other, []byte{1, 2, 3}) || !bytes.Equal(part, []byte{9, 2, 3}) {
		t.Error("what is put later changed an earlier answer, or a part: ", other, part)
	}
	wrote(t, "more behind an answer", &w, []byte{1, 2, 3, 4, 5}, api.OK)

	// A part with room behind it must not be written to.
	roomy := []byte{1, 2, 3, 4}
	var v octets.Writer
	v.Raw(roomy[:2]).Number(9, 1).Number(9, 1)
	if !bytes.Equal(roomy, []byte{1, 2, 3, 4}) {
		t.Error("what was handed in is changed: ", roomy)
	}
}

// P1.2: Number.

func TestTakeNumber(t *testing.T) {
	b := []byte{1, 2, 3, 4, 5, 6, 7, 8, 9}
	for width := 1; width <= 8; width++ {
		r := octets.Read(b)
		if v := r.Number(width); v != uint64(0x0807060504030201)&most(width) {
			t.Errorf("width %d: %x", width, v)
		}
		stands(t, fmt.Sprint("width ", width), r, 9-width, api.OK)
	}
}

func TestTakeGreatestNumber(t *testing.T) {
	for width := 1; width <= 8; width++ {
		r := octets.Read(bytes.Repeat([]byte{255}, width))
		if v := r.Number(width); v != most(width) {
			t.Errorf("width %d: %x", width, v)
		}
		stands(t, fmt.Sprint("width ", width), r, 0, api.OK)
	}
}

func TestTakeNumberFromTooFewBytes(t *testing.T) {
	for width := 1; width <= 8; width++ {
		for left := range width {
			r := octets.Read(bytes.Repeat([]byte{255}, left))
			if v := r.Number(width); v != 0 {
				t.Errorf("width %d of %d: %x", width, left, v)
			}
			stands(t, fmt.Sprint("width ", width, " of ", left), r, left, api.ErrShort)
		}
	}
}

func TestTakeNumberWithoutWidth(t *testing.T) {
	for _, width := range noWidths {
		for _, left := range []int{0, 1, 20} {
			r := octets.Read(bytes.Repeat([]byte{255}, left))
			if v := r.Number(width); v != 0 {
				t.Errorf("width %d: %x", width, v)
			}
			stands(t, fmt.Sprint("width ", width, " of ", left), r, left, api.ErrArg)
		}
	}
}

// P1.2: Flag.

func TestTakeFlag(t *testing.T) {
	for b := range 256 {
		r := octets.Read([]byte{byte(b), 1})
		got := r.Flag()
		if got != (b == 1) {
			t.Errorf("%d: %v", b, got)
		}
		if b <= 1 {
			stands(t, fmt.Sprint("flag ", b), r, 1, api.OK)
		} else {
			stands(t, fmt.Sprint("flag ", b), r, 2, api.ErrForm)
		}
	}
	r := octets.Read(nil)
	if r.Flag() {
		t.Error("a flag of no byte is yes")
	}
	stands(t, "no byte", r, 0, api.ErrShort)
}

// P1.2: Text.

func TestTakeText(t *testing.T) {
	full := string(append([]byte{255}, strings.Repeat("x", 255)...))
	for _, c := range []struct {
		b    string
		most int
		text string
		left int
		code api.Errno
	}{
		{"\x02ab", 2, "ab", 0, api.OK},
		{"\x02abc", 3, "ab", 1, api.OK},
		{"\x03\x00\xff\xc3", 3, "\x00\xff\xc3", 0, api.OK},
		{"\x00", 0, "", 0, api.OK},
		{"\x00a", 9, "", 1, api.OK},
		{"\x01a", math.MaxInt, "a", 0, api.OK},
		{full, 255, full[1:], 0, api.OK},
		{full, 256, full[1:], 0, api.OK},
		{full + "y", 300, full[1:], 1, api.OK},
		{full, 254, "", 256, api.ErrForm},
		{full[:255], 255, "", 255, api.ErrShort},
		{"", 9, "", 0, api.ErrShort},
		{"", -1, "", 0, api.ErrShort},
		{"\x03abc", 2, "", 4, api.ErrForm},
		{"\x03a", 2, "", 2, api.ErrForm},
		{"\x01a", 0, "", 2, api.ErrForm},
		{"\x00", -1, "", 1, api.ErrForm},
		{"\x01a", math.MinInt, "", 2, api.ErrForm},
		{"\x02a", 2, "", 2, api.ErrShort},
		{"\x02a", math.MaxInt, "", 2, api.ErrShort},
		{"\x01", 1, "", 1, api.ErrShort},
	} {
		r := octets.Read([]byte(c.b))
		what := fmt.Sprintf("text of at most %d in %.9q", c.most, c.b)
		if s := r.Text(c.most); s != c.text {
			t.Errorf("%s: %q", what, s)
		}
		stands(t, what, r, c.left, c.code)
	}
}

// P1.2: Raw.

func TestTakeRaw(t *testing.T) {
	for _, c := range []struct {
		n    int
		got  []byte
		left int
		code api.Errno
	}{
		{0, nil, 3, api.OK},
		{1, []byte{1}, 2, api.OK},
		{3, []byte{1, 2, 3}, 0, api.OK},
		{4, nil, 3, api.ErrShort},
		{math.MaxInt, nil, 3, api.ErrShort},
		{-1, nil, 3, api.ErrArg},
		{math.MinInt, nil, 3, api.ErrArg},
	} {
		r := octets.Read([]byte{1, 2, 3})
		if got := r.Raw(c.n); !bytes.Equal(got, c.got) {
			t.Errorf("raw %d: %v", c.n, got)
		}
		stands(t, fmt.Sprint("raw ", c.n), r, c.left, c.code)
	}
	r := octets.Read(nil)
	if got := r.Raw(0); len(got) != 0 {
		t.Error("raw 0 of none: ", got)
	}
	stands(t, "raw 0 of none", r, 0, api.OK)
}

func TestReaderSharesNothing(t *testing.T) {
	b := []byte{1, 2, 1, 97, 5, 6, 7, 8}
	r := octets.Read(b[:6])
	for i := range b {
		b[i] = 9
	}
	raw := r.Raw(2)
	if !bytes.Equal(raw, []byte{1, 2}) {
		t.Error("what was handed in is kept: ", raw)
	}
	_ = append(raw, 0, 0, 0, 0)
	raw[0] = 0
	if s := r.Text(1); s != "a" {
		t.Errorf("an answer is kept: %q", s)
	}
	if v := r.Number(1); v != 5 {
		t.Error("an answer is kept: ", v)
	}
	if !bytes.Equal(b, []byte{9, 9, 9, 9, 9, 9, 9, 9}) || !bytes.Equal(raw, []byte{0, 2}) {
		t.Error("what was handed in, or answered, is changed: ", b, raw)
	}
	c := []byte{1, 2, 3}
	one, other := octets.Read(c).Raw(3), octets.Read(c).Raw(3)
	one[0] = 9
	if other[0] != 1 || c[0] != 1 {
		t.Error("two answers share memory: ", other, c)
	}
}

// P1.2, P1.3: behind the first error nothing is taken, whatever is asked.

// failing are calls that have an error, on the bytes 2, 97.
var failing = []struct {
	name string
	do   func(r *octets.Reader)
	code api.Errno
}{
	{"no width", func(r *octets.Reader) { r.Number(0) }, api.ErrArg},
	{"short number", func(r *octets.Reader) { r.Number(3) }, api.ErrShort},
	{"flag", func(r *octets.Reader) { r.Flag() }, api.ErrForm},
	{"long text", func(r *octets.Reader) { r.Text(1) }, api.ErrForm},
	{"short text", func(r *octets.Reader) { r.Text(2) }, api.ErrShort},
	{"raw below 0", func(r *octets.Reader) { r.Raw(-1) }, api.ErrArg},
	{"short raw", func(r *octets.Reader) { r.Raw(3) }, api.ErrShort},
	{"fail", func(r *octets.Reader) { r.Fail(api.ErrSum) }, api.ErrSum},
	{"fail with an unknown error", func(r *octets.Reader) { r.Fail(-7) }, -7},
	{"done", func(r *octets.Reader) { r.Done() }, api.ErrForm},
}

func TestNothingIsTakenBehindAnError(t *testing.T) {
	for _, first := range failing {
		r := octets.Read([]byte{2, 97})
		first.do(r)
		stands(t, first.name, r, 2, first.code)
		for _, next := range failing {
			next.do(r)
			stands(t, first.name+", then "+next.name, r, 2, first.code)
		}
		if v := r.Number(1); v != 0 {
			t.Error(first.name, ": then the number ", v)
		}
		if s := r.Text(9); s != "" {
			t.Errorf("%s: then the text %q", first.name, s)
		}
		if b := r.Raw(1); len(b) != 0 {
			t.Error(first.name, ": then the bytes ", b)
		}
		r.Raw(0)
		r.Fail(api.OK)
		stands(t, first.name+", then all", r, 2, first.code)
		if e := r.Done(); e != first.code {
			t.Error(first.name, ": then Done is ", e)
		}
	}
}

func TestNoFlagIsTakenBehindAnError(t *testing.T) {
	r := octets.Read([]byte{1, 1})
	r.Fail(api.ErrKey)
	if r.Flag() {
		t.Error("yes behind an error")
	}
	stands(t, "flag", r, 2, api.ErrKey)
}

func TestWhatIsTakenAheadOfAnErrorStays(t *testing.T) {
	r := octets.Read([]byte{7, 1, 3, 97})
	if v, f := r.Number(1), r.Flag(); v != 7 || !f {
		t.Error(v, f)
	}
	r.Text(3)
	stands(t, "behind two that were taken", r, 2, api.ErrShort)
}

// P1.3.

func TestLeft(t *testing.T) {
	r := octets.Read([]byte{1, 2, 1, 97, 1, 5})
	for _, c := range []struct {
		do   func()
		left int
	}{
		{func() {}, 6},
		{func() { r.Number(2) }, 4},
		{func() { r.Text(1) }, 2},
		{func() { r.Flag() }, 1},
		{func() { r.Raw(0) }, 1},
		{func() { r.Raw(1) }, 0},
	} {
		c.do()
		stands(t, "left", r, c.left, api.OK)
	}
	stands(t, "none", octets.Read(nil), 0, api.OK)
}

func TestFail(t *testing.T) {
	r := octets.Read([]byte{1, 2})
	r.Fail(api.OK)
	if v := r.Number(1); v != 1 {
		t.Error("OK stopped the reader: ", v)
	}
	stands(t, "OK", r, 1, api.OK)
	r.Fail(api.ErrValue)
	r.Fail(api.ErrKey)
	r.Fail(api.OK)
	stands(t, "the first one", r, 1, api.ErrValue)
}

func TestDone(t *testing.T) {
	for _, c := range []struct {
		b    []byte
		do   func(r *octets.Reader)
		left int
		code api.Errno
	}{
		{nil, func(r *octets.Reader) {}, 0, api.OK},
		{[]byte{1}, func(r *octets.Reader) { r.Number(1) }, 0, api.OK},
		{[]byte{1}, func(r *octets.Reader) {}, 1, api.ErrForm},
		{[]byte{1, 2}, func(r *octets.Reader) { r.Number(1) }, 1, api.ErrForm},
		{[]byte{1, 2}, func(r *octets.Reader) { r.Number(3) }, 2, api.ErrShort},
		{[]byte{1, 2}, func(r *octets.Reader) { r.Fail(api.ErrSum) }, 2, api.ErrSum},
		{nil, func(r *octets.Reader) { r.Fail(api.ErrSum) }, 0, api.ErrSum},
		{nil, func(r *octets.Reader) { r.Flag() }, 0, api.ErrShort},
	} {
		r := octets.Read(c.b)
		c.do(r)
		for range 2 {
			if e := r.Done(); e != c.code {
				t.Errorf("%v: Done is %d, want %d", c.b, e, c.code)
			}
			stands(t, fmt.Sprint(c.b, " done"), r, c.left, c.code)
		}
	}
}

func TestDoneWithoutErrorLetsTheReaderGoOn(t *testing.T) {
	r := octets.Read([]byte{1})
	r.Number(1)
	r.Done()
	r.Raw(0)
	stands(t, "done", r, 0, api.OK)
	r.Number(1)
	stands(t, "none left", r, 0, api.ErrShort)
}

// P1.4.

// part is something that is put, and taken as it was.
type part struct {
	kind  int
	v     uint64
	width int
	flag  bool
	text  string
	raw   []byte
}

// drawPart draws a part.
func drawPart(d *rand.Rand) part {
	p := part{kind: d.Intn(4), width: 1 + d.Intn(8), flag: d.Intn(2) == 1}
	p.v = d.Uint64() & most(p.width) >> d.Intn(8)
	p.raw = make([]byte, d.Intn(300))
	d.Read(p.raw)
	text := make([]byte, d.Intn(256))
	d.Read(text)
	p.text = string(text)
	return p
}

// put puts a part.
func (p part) put(w *octets.Writer) {
	switch p.kind {
	case 0:
		w.Number(p.v, p.width)
	case 1:
		w.Flag(p.flag)
	case 2:
		w.Text(p.text)
	case 3:
		w.Raw(p.raw)
	}
}

// comes tells whether the part is what is taken next.
func (p part) comes(r *octets.Reader) bool {
	switch p.kind {
	case 0:
		return r.Number(p.width) == p.v
	case 1:
		return r.Flag() == p.flag
	case 2:
		return r.Text(len(p.text)) == p.text
	}
	return bytes.Equal(r.Raw(len(p.raw)), p.raw)
}

func TestWhatIsPutIsTaken(t *testing.T) {
	d := rand.New(rand.NewSource(1))
	for i := range 500 {
		l := make([]part, d.Intn(12))
		var w octets.Writer
		for j := range l {
			l[j] = drawPart(d)
			l[j].put(&w)
		}
		if w.Err() != api.OK {
			t.Fatalf("%d: put: %d", i, w.Err())
		}
		r := octets.Read(w.Bytes())
		for _, p := range l {
			if !p.comes(r) || r.Err() != api.OK {
				t.Fatalf("%d: %#v isn't taken as it was put: %d", i, p, r.Err())
			}
		}
		if e := r.Done(); e != api.OK || r.Left() != 0 {
			t.Fatalf("%d: done: %d, left %d", i, e, r.Left())
		}
	}
}

// P1, K7: whatever is asked, of whatever bytes, no call panics, and an error takes nothing.
func TestAnyCallsOfAnyBytes(t *testing.T) {
	d := rand.New(rand.NewSource(2))
	odd := append([]int{1, 2, 3, 8, 255, 256}, noWidths...)
	for range 2000 {
		b := make([]byte, d.Intn(12))
		for i := range b {
			b[i] = byte(d.Intn(5))
		}
		r := octets.Read(b)
		for range 8 {
			n, left, err := odd[d.Intn(len(odd))], r.Left(), r.Err()
			switch d.Intn(4) {
			case 0:
				r.Number(n)
			case 1:
				r.Flag()
			case 2:
				r.Text(n)
			case 3:
				r.Raw(n)
			}
			if r.Err() != api.OK && r.Left() != left || err != api.OK && r.Err() != err {
				t.Fatalf("%v: left %d, then %d; error %d, then %d", b, left, r.Left(), err, r.Err())
			}
		}
	}
}
