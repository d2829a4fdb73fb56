package frame_test

import (
	"bytes"
	"fmt"
	"hash/crc32"
	"math"
	"math/bits"
	"math/rand"
	"testing"

	"quidnunc/api"
	"quidnunc/frame"
)

// mark gives bytes, marked, without the project's sums.
func mark(b ...byte) []byte {
	s := crc32.ChecksumIEEE(b)
	return append(bytes.Clone(b), byte(s), byte(s>>8), byte(s>>16), byte(s>>24))
}

// made gives marked bytes of which each number is told, whether they may be or not.
func made(from, to, kind byte, length int, body []byte) []byte {
	return mark(append([]byte{from, to, kind, byte(length), byte(length >> 8)}, body...)...)
}

// drawn gives so many bytes that are drawn.
func drawn(d *rand.Rand, n int) []byte {
	b := make([]byte, n)
	d.Read(b)
	return b
}

// drawFrame draws a frame that may be, of a body of so many bytes.
func drawFrame(d *rand.Rand, n int) frame.Frame {
	return frame.Frame{From: d.Intn(12), To: d.Intn(12), Kind: 1 + d.Intn(31), Body: drawn(d, n)}
}

// lengths are how many bytes bodies have.
var lengths = []int{0, 1, 2, 3, 4, 5, 9, 255, 256, 257, 511, 512, 513, 1023, 1024}

// noSites are numbers that no site has.
var noSites = []int{-1, 12, 13, -12, 255, 256, 257, 268, 1 << 32, 1<<32 + 1, math.MaxInt, math.MinInt}

// noKinds are numbers that no kind has.
var noKinds = []int{0, 32, 33, -1, -31, 255, 256, 257, 287, 1 << 32, 1<<32 + 1, math.MaxInt, math.MinInt}

// isFrame fails the test where a frame hasn't just these fields.
func isFrame(t *testing.T, what string, got, want frame.Frame) {
	t.Helper()
	if got.From != want.From || got.To != want.To || got.Kind != want.Kind || !bytes.Equal(got.Body, want.Body) {
		t.Errorf("%s: %v, want %v", what, got, want)
	}
}

// mayBe fails the test where Check, or Encode, answers another error, or something beside one.
func mayBe(t *testing.T, what string, f frame.Frame, code api.Errno) {
	t.Helper()
	if e := frame.Check(f); e != code {
		t.Errorf("%s: Check: %d, want %d", what, e, code)
	}
	var c frame.Codec
	b, e := c.Encode(f)
	if e != code {
		t.Errorf("%s: Encode: %d, want %d", what, e, code)
	}
	if e != api.OK && len(b) != 0 {
		t.Errorf("%s: Encode answers %v beside the error %d", what, b, e)
	}
}

// tells fails the test where bytes are decoded with another error, or something is answered beside it.
func tells(t *testing.T, what string, b []byte, code api.Errno) {
	t.Helper()
	var c frame.Codec
	f, e := c.Decode(b)
	if e != code {
		t.Errorf("%s: %d, want %d", what, e, code)
	}
	if e != api.OK {
		isFrame(t, what+", beside an error", f, frame.Frame{})
	}
}

// P3.1: Check, and Encode's errors.

func TestSitesAndKindsThatMayBe(t *testing.T) {
	for from := range 12 {
		for to := range 12 {
			for kind := 1; kind <= 31; kind++ {
				mayBe(t, fmt.Sprint(from, to, kind), frame.Frame{From: from, To: to, Kind: kind}, api.OK)
			}
		}
	}
}

func TestNoSiteAndNoKind(t *testing.T) {
	for _, body := range [][]byte{nil, {7}, make([]byte, 1024), make([]byte, 1025)} {
		for _, n := range noSites {
			mayBe(t, fmt.Sprint("from ", n), frame.Frame{From: n, To: 2, Kind: 3, Body: body}, api.ErrArg)
			mayBe(t, fmt.Sprint("to ", n), frame.Frame{From: 1, To: n, Kind: 3, Body: body}, api.ErrArg)
			mayBe(t, fmt.Sprint("from and to ", n), frame.Frame{From: n, To: n, Kind: 3, Body: body}, api.ErrArg)
		}
		for _, n := range noKinds {
			mayBe(t, fmt.Sprint("kind ", n), frame.Frame{From: 1, To: 2, Kind: n, Body: body}, api.ErrArg)
		}
	}
	mayBe(t, "the zero frame", frame.Frame{}, api.ErrArg)
}

func TestBodyThatMayBe(t *testing.T) {
	for _, n := range lengths {
		mayBe(t, fmt.Sprint(n, " bytes"), frame.Frame{Kind: 1, Body: make([]byte, n)}, api.OK)
	}
	mayBe(t, "a nil body", frame.Frame{Kind: 1}, api.OK)
}

func TestBodyTooLong(t *testing.T) {
	for _, n := range []int{1025, 1026, 1280, 2048, 65535, 65536, 65537, 1 << 20} {
		mayBe(t, fmt.Sprint(n, " bytes"), frame.Frame{From: 11, To: 11, Kind: 31, Body: make([]byte, n)}, api.ErrFull)
	}
}

// P3.1: Encode's bytes.

func TestExample(t *testing.T) {
	var c frame.Codec
	b, e := c.Encode(frame.Frame{From: 1, To: 2, Kind: 3, Body: []byte{7}})
	if e != api.OK || len(b) != 10 || !bytes.Equal(b, mark(1, 2, 3, 1, 0, 7)) {
		t.Error(b, e)
	}
}

func TestEncode(t *testing.T) {
	var c frame.Codec
	d := rand.New(rand.NewSource(1))
	for _, n := range lengths {
		f := drawFrame(d, n)
		want := made(byte(f.From), byte(f.To), byte(f.Kind), n, f.Body)
		if b, e := c.Encode(f); e != api.OK || !bytes.Equal(b, want) {
			t.Errorf("a body of %d: %v, error %d; want %v", n, b, e, want)
		}
	}
	for _, f := range []frame.Frame{
		{From: 0, To: 0, Kind: 1}, {From: 11, To: 11, Kind: 31}, {From: 0, To: 11, Kind: 31}, {From: 11, To: 0, Kind: 1},
	} {
		want := made(byte(f.From), byte(f.To), byte(f.Kind), 0, nil)
		if b, e := c.Encode(f); e != api.OK || !bytes.Equal(b, want) {
			t.Errorf("%v: %v, error %d; want %v", f, b, e, want)
		}
	}
}

func TestEncodeOfNoBody(t *testing.T) {
	var c frame.Codec
	for _, none := range [][]byte{nil, {}} {
		b, e := c.Encode(frame.Frame{From: 1, To: 2, Kind: 3, Body: none})
		if e != api.OK || !bytes.Equal(b, mark(1, 2, 3, 0, 0)) {
			t.Error(b, e)
		}
	}
}

// P3.1: Same.

func TestSame(t *testing.T) {
	f := frame.Frame{From: 1, To: 2, Kind: 3, Body: []byte{7, 8, 9}}
	for i, k := range []struct {
		g    frame.Frame
		same bool
	}{
		{frame.Frame{From: 1, To: 2, Kind: 3, Body: []byte{7, 8, 9}}, true},
		{frame.Frame{From: 4, To: 2, Kind: 3, Body: []byte{7, 8, 9}}, false},
		{frame.Frame{From: 1, To: 4, Kind: 3, Body: []byte{7, 8, 9}}, false},
		{frame.Frame{From: 1, To: 2, Kind: 4, Body: []byte{7, 8, 9}}, false},
		{frame.Frame{From: 2, To: 1, Kind: 3, Body: []byte{7, 8, 9}}, false},
		{frame.Frame{From: 257, To: 2, Kind: 3, Body: []byte{7, 8, 9}}, false},
		{frame.Frame{From: 1, To: 2 - 256, Kind: 3, Body: []byte{7, 8, 9}}, false},
		{frame.Frame{From: 1, To: 2, Kind: 3 + 1<<32, Body: []byte{7, 8, 9}}, false},
		{frame.Frame{From: 1, To: 2, Kind: 3, Body: []byte{6, 8, 9}}, false},
		{frame.Frame{From: 1, To: 2, Kind: 3, Body: []byte{7, 0, 9}}, false},
		{frame.Frame{From: 1, To: 2, Kind: 3, Body: []byte{7, 8, 8}}, false},
		{frame.Frame{From: 1, To: 2, Kind: 3, Body: []byte{9, 8, 7}}, false},
		{frame.Frame{From: 1, To: 2, Kind: 3, Body: []byte{7, 8}}, false},
		{frame.Frame{From: 1, To: 2, Kind: 3, Body: []byte{7, 8, 9, 0}}, false},
		{frame.Frame{From: 1, To: 2, Kind: 3}, false},
		{frame.Frame{}, false},
	} {
		if frame.Same(f, k.g) != k.same || frame.Same(k.g, f) != k.same || !frame.Same(k.g, k.g) {
			t.Errorf("%d: %v and %v: %v, %v", i, f, k.g, frame.Same(f, k.g), frame.Same(k.g, f))
		}
	}
}

func TestSameOfNoBody(t *testing.T) {
	none, empty := frame.Frame{Kind: 1}, frame.Frame{Kind: 1, Body: []byte{}}
	zero := frame.Frame{Kind: 1, Body: []byte{0}}
	if !frame.Same(none, empty) || !frame.Same(empty, none) || !frame.Same(none, none) || !frame.Same(empty, empty) {
		t.Error("a nil body and an empty one aren't the same")
	}
	if frame.Same(none, zero) || frame.Same(zero, none) || frame.Same(empty, zero) || frame.Same(zero, empty) {
		t.Error("no byte and a byte 0 are the same")
	}
}

func TestSameOfFramesThatMayNotBe(t *testing.T) {
	long, other := make([]byte, 70000), make([]byte, 70000)
	f := frame.Frame{From: -1, To: math.MaxInt, Kind: math.MinInt, Body: long}
	if !frame.Same(f, frame.Frame{From: -1, To: math.MaxInt, Kind: math.MinInt, Body: other}) {
		t.Error("the same, but told unlike")
	}
	other[69999] = 1
	if frame.Same(f, frame.Frame{From: -1, To: math.MaxInt, Kind: math.MinInt, Body: other}) {
		t.Error("unlike in the last byte, but told the same")
	}
	if frame.Same(f, frame.Frame{From: -1, To: math.MaxInt, Kind: math.MinInt, Body: long[:1024]}) {
		t.Error("unlike in how many bytes, but told the same")
	}
	if !frame.Same(frame.Frame{}, frame.Frame{}) || frame.Same(frame.Frame{}, frame.Frame{Kind: 32}) {
		t.Error("the zero frame")
	}
}

// P3.2: what is short.

func TestDecodeOfFewBytes(t *testing.T) {
	for n := range 9 {
		tells(t, fmt.Sprint(n, " bytes 0"), make([]byte, n), api.ErrShort)
		if n >= 4 {
			tells(t, fmt.Sprint(n, " marked bytes"), mark(make([]byte, n-4)...), api.ErrShort)
		}
		tells(t, fmt.Sprint("a frame's first ", n), mark(1, 2, 3, 0, 0)[:n], api.ErrShort)
	}
	tells(t, "nil", nil, api.ErrShort)
	tells(t, "eight, marked", mark(1, 2, 3, 0), api.ErrShort)
	tells(t, "nine, marked", mark(1, 2, 3, 0, 0), api.OK)
	tells(t, "nine, not marked", []byte{1, 2, 3, 0, 0, 0, 0, 0, 0}, api.ErrSum)
}

// P3.2: what isn't marked.

func TestDecodeOfBytesNotMarked(t *testing.T) {
	b := made(1, 2, 3, 3, []byte{7, 8, 9})
	for n := 9; n < len(b); n++ {
		tells(t, fmt.Sprint("the first ", n), b[:n], api.ErrSum)
	}
	tells(t, "a byte more", append(bytes.Clone(b), 0), api.ErrSum)
	tells(t, "a byte more ahead", append([]byte{0}, b...), api.ErrSum)
	tells(t, "without the first", b[1:], api.ErrSum)
	for i := range b {
		for by := 1; by < 256; by++ {
			c := bytes.Clone(b)
			c[i] ^= byte(by)
			tells(t, fmt.Sprint("byte ", i, " turned by ", by), c, api.ErrSum)
		}
	}
	s := bytes.Clone(b)
	n := len(s)
	s[n-4], s[n-3], s[n-2], s[n-1] = s[n-1], s[n-2], s[n-3], s[n-4]
	tells(t, "the sum's highest byte first", s, api.ErrSum)
}

// P3.2: what is marked, but has no form.

func TestDecodeOfSitesAndKinds(t *testing.T) {
	for n := range 256 {
		site, kind := api.ErrForm, api.ErrForm
		if n <= 11 {
			site = api.OK
		}
		if n >= 1 && n <= 31 {
			kind = api.OK
		}
		tells(t, fmt.Sprint("from ", n), made(byte(n), 2, 3, 1, []byte{7}), site)
		tells(t, fmt.Sprint("to ", n), made(1, byte(n), 3, 1, []byte{7}), site)
		tells(t, fmt.Sprint("kind ", n), made(1, 2, byte(n), 1, []byte{7}), kind)
		tells(t, fmt.Sprint("from ", n, " without a body"), made(byte(n), 2, 3, 0, nil), site)
		tells(t, fmt.Sprint("to ", n, " without a body"), made(1, byte(n), 3, 0, nil), site)
		tells(t, fmt.Sprint("kind ", n, " without a body"), made(1, 2, byte(n), 0, nil), kind)
	}
}

func TestDecodeOfAnotherNumberOfBytes(t *testing.T) {
	for _, n := range append([]int{1025, 1280, 2048, 65535, 65536, 65537, 65536 + 1024}, lengths...) {
		body := make([]byte, n)
		for _, said := range []int{0, 1, n - 1, n, n + 1, n / 256, n % 256, n << 8, 1023, 1024, 1025, 32768, 65535} {
			if said < 0 || said > 65535 {
				continue
			}
			code := api.ErrForm
			if said == n && n <= 1024 {
				code = api.OK
			}
			tells(t, fmt.Sprint(n, " bytes, said to be ", said), made(1, 2, 3, said, body), code)
		}
	}
}

func TestDecodeOfAnyNumberSaid(t *testing.T) {
	body := make([]byte, 300)
	for said := range 65536 {
		if said != len(body) {
			tells(t, fmt.Sprint("300 bytes, said to be ", said), made(1, 2, 3, said, body), api.ErrForm)
		}
	}
	tells(t, "300 bytes, said to be 300", made(1, 2, 3, 300, body), api.OK)
}

// P3.2: several errors at once.

func TestDecodeTellsTheFirstError(t *testing.T) {
	tells(t, "eight bytes, not marked, no site", []byte{12, 2, 0, 9, 9, 1, 2, 3}, api.ErrShort)
	tells(t, "eight bytes, marked, no site", mark(12, 2, 0, 9), api.ErrShort)
	for _, b := range [][]byte{
		made(12, 2, 3, 1, []byte{7}),
		made(1, 255, 3, 1, []byte{7}),
		made(1, 2, 0, 1, []byte{7}),
		made(1, 2, 32, 1, []byte{7}),
		made(1, 2, 3, 2, []byte{7}),
		made(1, 2, 3, 0, []byte{7}),
		made(1, 2, 3, 1025, make([]byte, 1025)),
		made(12, 12, 0, 1025, make([]byte, 1026)),
	} {
		tells(t, fmt.Sprintf("%.9v, marked", b), b, api.ErrForm)
		b[len(b)-1] ^= 1
		tells(t, fmt.Sprintf("%.9v, not marked", b), b, api.ErrSum)
	}
}

// P3.2: the frame.

func TestDecode(t *testing.T) {
	var c frame.Codec
	d := rand.New(rand.NewSource(2))
	for _, n := range lengths {
		want := drawFrame(d, n)
		f, e := c.Decode(made(byte(want.From), byte(want.To), byte(want.Kind), n, want.Body))
		if e != api.OK {
			t.Errorf("a body of %d: %d", n, e)
		}
		isFrame(t, fmt.Sprint("a body of ", n), f, want)
	}
	f, e := c.Decode(mark(11, 0, 31, 0, 0))
	if e != api.OK || len(f.Body) != 0 {
		t.Error(f, e)
	}
	isFrame(t, "no body", f, frame.Frame{From: 11, To: 0, Kind: 31})
}

// P3.3: there and back.

func TestWhatIsEncodedIsDecoded(t *testing.T) {
	var there, back frame.Codec
	same := func(f frame.Frame) {
		b, e := there.Encode(f)
		if e != api.OK {
			t.Fatalf("%v: %d", f, e)
		}
		g, e := back.Decode(b)
		if e != api.OK || !frame.Same(f, g) {
			t.Fatalf("%v: %v, error %d", f, g, e)
		}
		isFrame(t, "there and back", g, f)
	}
	d := rand.New(rand.NewSource(3))
	for from := range 12 {
		for to := range 12 {
			for kind := 1; kind <= 31; kind++ {
				same(frame.Frame{From: from, To: to, Kind: kind, Body: drawn(d, d.Intn(6))})
			}
		}
	}
	for n := range 1025 {
		same(drawFrame(d, n))
	}
	for _, v := range []byte{0, 255} {
		same(frame.Frame{Kind: 1, Body: bytes.Repeat([]byte{v}, 1024)})
	}
	same(frame.Frame{Kind: 1, Body: mark(1, 2, 3, 1, 0, 7)}) // a frame's bytes in a body
	same(frame.Frame{Kind: 1})
}

// P3.3: what is turned.

// turn turns the bits of a pattern, the lowest of which lies at bit start, in whole bytes.
func turn(b []byte, start int, pattern uint32) []byte {
	t := bytes.Clone(b)
	for at, p := start/8, uint64(pattern)<<(start%8); p > 0; at, p = at+1, p>>8 {
		t[at] ^= byte(p)
	}
	return t
}

func TestTurnedWithin32Bits(t *testing.T) {
	d := rand.New(rand.NewSource(4))
	patterns := []uint32{1, 3, 0xFF, 0xFFFF, 0xEDB88321, 0x80000001, 0xFFFFFFFF, d.Uint32() | 1, d.Uint32() | 1}
	var c frame.Codec
	for _, n := range []int{0, 1, 2, 4, 40, 300} {
		b, _ := c.Encode(drawFrame(d, n))
		for _, p := range patterns {
			for start := 0; start+bits.Len32(p) <= 8*len(b); start++ {
				tells(t, fmt.Sprintf("a body of %d, bits %x turned at %d", n, p, start), turn(b, start, p), api.ErrSum)
			}
		}
	}
}

func TestTurnedInTheLongestFrame(t *testing.T) {
	d := rand.New(rand.NewSource(5))
	var c frame.Codec
	b, _ := c.Encode(drawFrame(d, 1024))
	for range 2000 {
		start, p := d.Intn(8*len(b)-31), d.Uint32()|1
		tells(t, fmt.Sprintf("bits %x turned at %d", p, start), turn(b, start, p), api.ErrSum)
	}
}

// All calls: a zero Codec, what is handed in, and what is answered.

// asks are calls of a Codec, and what each answers.
func asks() map[string]struct {
	ask  func(c *frame.Codec) string
	want string
} {
	type one = struct {
		ask  func(c *frame.Codec) string
		want string
	}
	encode := func(f frame.Frame) func(c *frame.Codec) string {
		return func(c *frame.Codec) string {
			b, e := c.Encode(f)
			return fmt.Sprint(b, int(e))
		}
	}
	decode := func(b []byte) func(c *frame.Codec) string {
		return func(c *frame.Codec) string {
			f, e := c.Decode(b)
			return fmt.Sprint(f, int(e))
		}
	}
	return map[string]one{
		"Encode":      {encode(frame.Frame{From: 1, To: 2, Kind: 3, Body: []byte{7}}), fmt.Sprint(mark(1, 2, 3, 1, 0, 7), 0)},
		"Encode none": {encode(frame.Frame{Kind: 1}), fmt.Sprint(mark(0, 0, 1, 0, 0), 0)},
		"no site":     {encode(frame.Frame{From: 12, Kind: 1}), "[] 1"},
		"too long":    {encode(frame.Frame{Kind: 1, Body: make([]byte, 1025)}), "[] 7"},
		"Decode":      {decode(mark(1, 2, 3, 1, 0, 7)), "{1 2 3 [7]} 0"},
		"Decode none": {decode(mark(0, 0, 1, 0, 0)), "{0 0 1 []} 0"},
		"short":       {decode(mark(1, 2, 3, 1)), "{0 0 0 []} 6"},
		"no sum":      {decode([]byte{1, 2, 3, 1, 0, 7, 0, 0, 0, 0}), "{0 0 0 []} 5"},
		"no form":     {decode(mark(1, 2, 3, 2, 0, 7)), "{0 0 0 []} 4"},
	}
}

func TestZeroCodecAnswersAtOnce(t *testing.T) {
	for first, a := range asks() {
		for second, b := range asks() {
			var c frame.Codec
			if got := a.ask(&c); got != a.want {
				t.Errorf("%s first: %s, want %s", first, got, a.want)
			}
			if got := b.ask(&c); got != b.want {
				t.Errorf("%s behind %s: %s, want %s", second, first, got, b.want)
			}
			if got := a.ask(&c); got != a.want {
				t.Errorf("%s again, behind %s: %s, want %s", first, second, got, a.want)
			}
		}
	}
}

func TestCodecsDoNotDisturbOneAnother(t *testing.T) {
	var one, other frame.Codec
	for name, a := range asks() {
		if got := a.ask(&one); got != a.want {
			t.Errorf("%s: %s, want %s", name, got, a.want)
		}
	}
	for name, a := range asks() {
		if got := a.ask(&other); got != a.want {
			t.Errorf("%s of the other: %s, want %s", name, got, a.want)
		}
	}
}

func TestCodecHasItsTablesMethods(t *testing.T) {
	var c frame.Codec
	b, _ := c.Encode(frame.Frame{From: 1, To: 2, Kind: 3, Body: []byte{7}})
	if !c.Holds(b) || !bytes.Equal(c.Mark([]byte{1, 2, 3, 1, 0, 7}), b) || c.Of([]byte("123456789")) != 0xCBF43926 {
		t.Error(b)
	}
}

func TestWhatIsHandedInIsNotChanged(t *testing.T) {
	var c frame.Codec
	// There is room behind each: nothing may be written there, either.
	whole := append(mark(1, 2, 3, 1, 0, 7), 50, 51, 52, 53, 54, 55, 56, 57)
	before := bytes.Clone(whole)
	f := frame.Frame{From: 1, To: 2, Kind: 3, Body: whole[5:6]}
	for name, do := range map[string]func(){
		"Check":            func() { frame.Check(f) },
		"Encode":           func() { c.Encode(f) },
		"Encode none":      func() { c.Encode(frame.Frame{Kind: 1, Body: whole[5:5]}) },
		"Encode of none":   func() { c.Encode(frame.Frame{Kind: 0, Body: whole}) },
		"Decode":           func() { c.Decode(whole[:10]) },
		"Decode not whole": func() { c.Decode(whole[:9]) },
		"Decode short":     func() { c.Decode(whole[:8]) },
		"Same":             func() { frame.Same(f, f) },
	} {
		do()
		if !bytes.Equal(whole, before) || f.From != 1 || f.To != 2 || f.Kind != 3 || len(f.Body) != 1 {
			t.Errorf("%s changed what was handed in: %v, %v", name, whole, f)
		}
	}
}

func TestWhatIsHandedInIsNotKept(t *testing.T) {
	var c frame.Codec
	body := []byte{7, 8, 9}
	b, _ := c.Encode(frame.Frame{From: 1, To: 2, Kind: 3, Body: body})
	g, _ := c.Decode(b)
	body[0] = 70
	if !bytes.Equal(b, made(1, 2, 3, 3, []byte{7, 8, 9})) {
		t.Error("what is encoded shares memory with the body: ", b)
	}
	for i := range b {
		b[i] = 90
	}
	isFrame(t, "decoded, and its bytes changed", g, frame.Frame{From: 1, To: 2, Kind: 3, Body: []byte{7, 8, 9}})
	if again, _ := c.Encode(frame.Frame{From: 1, To: 2, Kind: 3, Body: body}); !bytes.Equal(again, made(1, 2, 3, 3, body)) {
		t.Error("an earlier body is kept: ", again)
	}
	if _, e := c.Decode(b); e != api.ErrSum {
		t.Error("earlier bytes are kept: ", e)
	}
}

func TestAnswersShareNothing(t *testing.T) {
	var c frame.Codec
	f := frame.Frame{From: 1, To: 2, Kind: 3, Body: []byte{7, 8, 9}}
	want := made(1, 2, 3, 3, f.Body)
	one, _ := c.Encode(f)
	other, _ := c.Encode(f)
	_ = append(one, 1, 1, 1, 1, 1, 1, 1, 1)
	for i := range one {
		one[i] = 90
	}
	if !bytes.Equal(other, want) || !bytes.Equal(f.Body, []byte{7, 8, 9}) {
		t.Error("two answers of Encode share memory, or one with the body: ", other, f)
	}

	g, _ := c.Decode(other)
	h, _ := c.Decode(other)
	_ = append(g.Body, 1, 1, 1, 1, 1, 1, 1, 1)
	for i := range g.Body {
		g.Body[i] = 90
	}
	isFrame(t, "another answer of Decode", h, f)
	if !bytes.Equal(other, want) {
		t.Error("an answer of Decode shares memory with what was handed in: ", other)
	}
	if again, e := c.Decode(other); e != api.OK || !frame.Same(again, f) {
		t.Error("an answer is kept: ", again, e)
	}
}

// P1, K7: any calls, against the document's words.

// plainCheck is what the document says of a frame.
func plainCheck(f frame.Frame) api.Errno {
	if f.From < 0 || f.From > 11 || f.To < 0 || f.To > 11 || f.Kind < 1 || f.Kind > 31 {
		return api.ErrArg
	}
	if len(f.Body) > 1024 {
		return api.ErrFull
	}
	return api.OK
}

// plainDecode is what the document says of bytes.
func plainDecode(b []byte) (frame.Frame, api.Errno) {
	n := len(b) - 4
	if n < 5 {
		return frame.Frame{}, api.ErrShort
	}
	if !bytes.Equal(mark(b[:n]...), b) {
		return frame.Frame{}, api.ErrSum
	}
	f := frame.Frame{From: int(b[0]), To: int(b[1]), Kind: int(b[2]), Body: b[5:n]}
	if plainCheck(f) != api.OK || int(b[3])+256*int(b[4]) != n-5 {
		return frame.Frame{}, api.ErrForm
	}
	return f, api.OK
}

func TestAnyFrames(t *testing.T) {
	var c frame.Codec
	d := rand.New(rand.NewSource(6))
	odd := append(append([]int{0, 1, 11, 31}, noSites...), noKinds...)
	number := func() int {
		if d.Intn(3) == 0 {
			return odd[d.Intn(len(odd))]
		}
		return 1 + d.Intn(11)
	}
	for range 3000 {
		f := frame.Frame{From: number(), To: number(), Kind: number(), Body: drawn(d, d.Intn(1100))}
		code := plainCheck(f)
		mayBe(t, fmt.Sprintf("from %d to %d, kind %d, a body of %d", f.From, f.To, f.Kind, len(f.Body)), f, code)
		if b, _ := c.Encode(f); code == api.OK && !bytes.Equal(b, made(byte(f.From), byte(f.To), byte(f.Kind), len(f.Body), f.Body)) {
			t.Fatalf("%v: %v", f, b)
		}
	}
}

func TestAnyBytes(t *testing.T) {
	var c frame.Codec
	d := rand.New(rand.NewSource(7))
	for range 20000 {
		n := d.Intn(6)
		b := made(byte(d.Intn(14)), byte(d.Intn(14)), byte(d.Intn(34)), max(0, n-1+d.Intn(3)), drawn(d, n))
		switch d.Intn(4) {
		case 0:
			b = drawn(d, d.Intn(20))
		case 1:
			b = mark(drawn(d, d.Intn(20))...)
		case 2:
			b = b[:d.Intn(len(b)+1)]
		}
		want, code := plainDecode(b)
		f, e := c.Decode(b)
		if e != code || !frame.Same(f, want) {
			t.Fatalf("%v: %v, error %d; want %v, %d", b, f, e, want, code)
		}
		isFrame(t, fmt.Sprint(b), f, want)
	}
}

func FuzzDecode(f *testing.F) {
	f.Add([]byte(nil), false)
	f.Add([]byte{1, 2, 3, 1, 0, 7}, true)
	f.Add([]byte{12, 2, 32, 1, 4}, true)
	f.Fuzz(func(t *testing.T, b []byte, marked bool) {
		if marked {
			b = mark(b...)
		}
		var c frame.Codec
		want, code := plainDecode(b)
		got, e := c.Decode(b)
		if e != code {
			t.Errorf("%v: %d, want %d", b, e, code)
		}
		isFrame(t, fmt.Sprint(b), got, want)
		if again, k := c.Encode(got); e == api.OK && (k != api.OK || !bytes.Equal(again, b)) {
			t.Errorf("%v: encoded again: %v, error %d", b, again, k)
		}
	})
}
