package setup_test

import (
	"bytes"
	"encoding/binary"
	"fmt"
	"math/rand"
	"testing"

	"quidnunc/api"
	"quidnunc/setup"
)

// plain gives the bytes of numbers, the lowest four of each, without the project's layer 1.
func plain(c setup.Config) []byte {
	var b []byte
	for _, n := range numbersOf(c) {
		b = binary.LittleEndian.AppendUint32(b, uint32(n))
	}
	return b
}

// read gives the configuration of 80 bytes, whether it may be or not.
func read(b []byte) setup.Config {
	var c setup.Config
	for place := range setup.Fields {
		c = with(c, place, int(binary.LittleEndian.Uint32(b[4*place:])))
	}
	return c
}

// decodes fails the test where Decode has another error, or something beside one, or changes what it was handed.
func decodes(t *testing.T, what string, b []byte, want setup.Config, code api.Errno) {
	t.Helper()
	if code != api.OK {
		want = setup.Config{}
	}
	was := bytes.Clone(b)
	if c, e := setup.Decode(b); c != want || e != code {
		t.Errorf("%s: %+v, error %d; want %+v, %d", what, c, e, want, code)
	}
	if !bytes.Equal(b, was) {
		t.Errorf("%s: what was handed in is changed", what)
	}
}

// P13.3: Encode.

func TestEncodeOfTheExample(t *testing.T) {
	want := []byte{
		2, 0, 0, 0, 2, 0, 0, 0, 1, 0, 0, 0, 0, 0, 0, 0, 0, 0, 0, 0,
		1, 0, 0, 0, 1, 0, 0, 0, 1, 0, 0, 0, 0, 0, 0, 0, 1, 0, 0, 0,
		1, 0, 0, 0, 1, 0, 0, 0, 1, 0, 0, 0, 1, 0, 0, 0, 1, 0, 0, 0,
		1, 0, 0, 0, 0, 0, 0, 0, 4, 0, 0, 0, 1, 0, 0, 0, 16, 0, 0, 0,
	}
	if b, e := setup.Encode(example()); e != api.OK || !bytes.Equal(b, want) {
		t.Error(b, e)
	}
	decodes(t, "the example", want, example(), api.OK)
}

func TestEncodeOfNumbersAboveAByte(t *testing.T) {
	c := with(middle(), t1, 0x01020304, t2, 0x7ffefdfc, capacity, 0x0102)
	b, e := setup.Encode(c)
	if e != api.OK || len(b) != 80 {
		t.Fatal(len(b), e)
	}
	if !bytes.Equal(b[12:20], []byte{4, 3, 2, 1, 0xfc, 0xfd, 0xfe, 0x7f}) || !bytes.Equal(b[76:], []byte{2, 1, 0, 0}) {
		t.Error(b)
	}
}

func TestEncodeOfWhatMayNotBe(t *testing.T) {
	for _, c := range append(wrong(), setup.Config{}) {
		if b, e := setup.Encode(c); len(b) != 0 || e != api.ErrConfig {
			t.Errorf("%v, error %d: %+v", b, e, c)
		}
	}
}

// P13.3: the way back.

func TestWhatIsEncodedIsDecoded(t *testing.T) {
	d := rand.New(rand.NewSource(6))
	l := fine()
	for range 20000 {
		l = append(l, drawGood(d))
	}
	for _, c := range l {
		b, e := setup.Encode(c)
		if e != api.OK || !bytes.Equal(b, plain(c)) {
			t.Fatalf("%v, error %d: %+v", b, e, c)
		}
		if back, e := setup.Decode(b); e != api.OK || back != c {
			t.Fatalf("%+v, error %d; want %+v", back, e, c)
		}
	}
}

// P13.3: Decode's errors.

func TestDecodeOfFewBytes(t *testing.T) {
	for n := range 80 {
		for _, c := range fine() {
			decodes(t, fmt.Sprint("the first ", n), plain(c)[:n], c, api.ErrShort)
		}
		decodes(t, fmt.Sprint(n, " bytes 0"), make([]byte, n), setup.Config{}, api.ErrShort)
		decodes(t, fmt.Sprint(n, " bytes 255"), bytes.Repeat([]byte{255}, n), setup.Config{}, api.ErrShort)
	}
	decodes(t, "nil", nil, setup.Config{}, api.ErrShort)
}

func TestDecodeOfBytesThatAreLeft(t *testing.T) {
	for _, c := range fine() {
		for _, n := range []int{1, 2, 3, 4, 5, 79, 80, 81, 1000} {
			b := append(plain(c), make([]byte, n)...)
			decodes(t, fmt.Sprint(n, " bytes more"), b, c, api.ErrForm)
			decodes(t, fmt.Sprint(n, " bytes ahead"), append(make([]byte, n), plain(c)...), c, api.ErrForm)
		}
		decodes(t, "twice", append(plain(c), plain(c)...), c, api.ErrForm)
	}
}

// Whether there are enough bytes is asked first, then whether there are too many, then the numbers.
func TestTheOrderOfDecodesErrors(t *testing.T) {
	for _, c := range fine() {
		for place := range setup.Fields {
			for _, n := range []int{13 + 512, 1 << 31, 1<<32 - 1} {
				bad := plain(with(c, place, n))
				if firstWrong(read(bad)) == none {
					continue // T1 and T2 go further
				}
				decodes(t, "a wrong number", bad, c, api.ErrConfig)
				decodes(t, "a wrong number, and a byte left", append(bytes.Clone(bad), 0), c, api.ErrForm)
				decodes(t, "a wrong number, and a number left", append(bytes.Clone(bad), 1, 0, 0, 0), c, api.ErrForm)
				decodes(t, "a wrong number, and a byte short", bad[:79], c, api.ErrShort)
				if place != capacity {
					decodes(t, "a wrong number, and none behind it", bad[:4*place+4], c, api.ErrShort)
				}
			}
		}
	}
	decodes(t, "all 0", make([]byte, 80), setup.Config{}, api.ErrConfig)
	decodes(t, "all 255", bytes.Repeat([]byte{255}, 80), setup.Config{}, api.ErrConfig)
	decodes(t, "all 255, and one left", bytes.Repeat([]byte{255}, 81), setup.Config{}, api.ErrForm)
}

// Four bytes tell a number of 0 and more: 2^32 - 1 isn't -1, and nothing is cut off.
func TestDecodeOfConfigurationsThatMayNotBe(t *testing.T) {
	for _, c := range wrong() {
		b := plain(c)
		is := read(b)
		if firstWrong(is) == none {
			continue // its lowest four bytes are those of one that may be
		}
		decodes(t, "may not be", b, c, api.ErrConfig)
	}
	for _, high := range []int{4 * t1, 4 * t2} {
		b := plain(greatest())
		b[high+3] |= 128
		decodes(t, "above MaxAge", b, setup.Config{}, api.ErrConfig)
	}
}

// Any byte turned: it is another configuration, whose bytes these are, or none.
func TestDecodeOfTurnedBytes(t *testing.T) {
	for _, c := range fine() {
		for i := range 80 {
			for by := 1; by < 256; by++ {
				b := plain(c)
				b[i] ^= byte(by)
				is, code := read(b), api.OK
				if firstWrong(is) != none {
					code = api.ErrConfig
				}
				decodes(t, fmt.Sprint("byte ", i, " turned by ", by), b, is, code)
				if again, _ := setup.Encode(is); code == api.OK && !bytes.Equal(again, b) {
					t.Fatal(again, b)
				}
			}
		}
	}
}

func TestDecodeOfAnyBytes(t *testing.T) {
	d := rand.New(rand.NewSource(7))
	for range 20000 {
		b := plain(drawAny(d))
		b = append(b, make([]byte, 4)...)[:80+d.Intn(2)*d.Intn(5)-d.Intn(2)*d.Intn(80)]
		switch {
		case len(b) < 80:
			decodes(t, "drawn", b, setup.Config{}, api.ErrShort)
		case len(b) > 80:
			decodes(t, "drawn", b, setup.Config{}, api.ErrForm)
		case firstWrong(read(b)) != none:
			decodes(t, "drawn", b, setup.Config{}, api.ErrConfig)
		default:
			decodes(t, "drawn", b, read(b), api.OK)
		}
	}
}

// K5: what is told is new memory, and what is handed in isn't kept.

func TestEncodeTellsNewMemory(t *testing.T) {
	first, _ := setup.Encode(middle())
	second, _ := setup.Encode(middle())
	for i := range first {
		first[i] ^= 255
	}
	_ = append(first, 1, 2, 3)
	third, _ := setup.Encode(middle())
	if !bytes.Equal(second, plain(middle())) || !bytes.Equal(third, plain(middle())) {
		t.Error(second, third)
	}
}

func TestDecodeChangesAndKeepsNothing(t *testing.T) {
	whole := append(plain(middle()), plain(greatest())...)
	was := bytes.Clone(whole)
	c, e := setup.Decode(whole[:80]) // what stands behind has nothing to do with it
	if e != api.OK || c != middle() || !bytes.Equal(whole, was) {
		t.Fatal(c, e)
	}
	clear(whole)
	if c != middle() {
		t.Error(c)
	}
	if again, e := setup.Decode(was[:80]); e != api.OK || again != middle() {
		t.Error(again, e)
	}
}

func TestListsAreChangedAlone(t *testing.T) {
	c := middle()
	l := setup.List(c)
	l[nodes] = 99
	if setup.List(c)[nodes] != 5 || c != middle() {
		t.Error(c)
	}
	l = setup.List(c)
	made := setup.Of(l)
	l[quota] = 99
	if made != middle() {
		t.Error(made)
	}
}

// K6: what is told hangs on the configuration alone, not on what was asked ahead.
func TestTheSameAgain(t *testing.T) {
	asked := append(fine(), wrong()[:200]...)
	all := func(c setup.Config) string {
		place, e := setup.Check(c)
		bound, ok := setup.Bound(c)
		long, is := setup.Long(c)
		b, f := setup.Encode(c)
		d, g := setup.Decode(plain(c))
		return fmt.Sprint(place, e, bound, ok, long, is, b, f, d, g, setup.Steps(c), setup.Roomy(c), setup.Options(c))
	}
	var first []string
	for _, c := range asked {
		first = append(first, all(c))
	}
	for i := len(asked) - 1; i >= 0; i-- {
		if again := all(asked[i]); again != first[i] {
			t.Errorf("%+v: %s, then %s", asked[i], first[i], again)
		}
	}
}
