package crc_test

import (
	"bytes"
	"fmt"
	"hash/crc32"
	"math"
	"math/rand"
	"testing"

	"quidnunc/crc"
)

// moves is what the document says of a register, word by word: so many moves.
func moves(register uint32, n int) uint32 {
	for range n {
		out := register & 1
		register >>= 1
		if out == 1 {
			register ^= 0xEDB88320
		}
	}
	return register
}

// through is what a register becomes by bytes, bit by bit.
func through(register uint32, b []byte) uint32 {
	for _, v := range b {
		register = moves(register^uint32(v), 8)
	}
	return register
}

// plainSum is the sum of bytes, bit by bit.
func plainSum(b []byte) uint32 { return ^through(0xFFFFFFFF, b) }

// plainMark is bytes, marked, without a Table.
func plainMark(b []byte) []byte {
	s := plainSum(b)
	return append(bytes.Clone(b), byte(s), byte(s>>8), byte(s>>16), byte(s>>24))
}

// effect is what becomes of a register in which one bit alone is 1, for each bit: that tells what
// becomes of all of them, since bits don't disturb one another.
type effect [32]uint32

// of gives what becomes of a register.
func (e effect) of(register uint32) uint32 {
	var sum uint32
	for i, v := range e {
		if register>>i&1 == 1 {
			sum ^= v
		}
	}
	return sum
}

// twice gives what becomes of registers if it befalls them two times.
func (e effect) twice() effect {
	var two effect
	for i := range two {
		two[i] = e.of(e[i])
	}
	return two
}

// byZeros is what a register becomes by n bytes 0: no multiplication, and no rows.
func byZeros(register uint32, n int) uint32 {
	var step effect
	for i := range step {
		step[i] = moves(1<<i, 8)
	}
	for ; n > 0; n >>= 1 {
		if n&1 == 1 {
			register = step.of(register)
		}
		step = step.twice()
	}
	return register
}

// drawn gives so many bytes that are drawn.
func drawn(d *rand.Rand, n int) []byte {
	b := make([]byte, n)
	d.Read(b)
	return b
}

// turn turns the bits of a pattern, the lowest of which lies at bit start. No bit of the pattern may lie
// behind the bytes' end.
func turn(b []byte, start int, pattern uint32) []byte {
	t := bytes.Clone(b)
	for i := range 32 {
		if pattern>>i&1 == 1 {
			t[(start+i)/8] ^= 1 << ((start + i) % 8)
		}
	}
	return t
}

// lengths are how many bytes rows of bytes have.
var lengths = []int{0, 1, 2, 3, 4, 5, 7, 8, 9, 31, 32, 33, 255, 256, 257, 1033}

// P2.1: Row.

func TestRow(t *testing.T) {
	var c crc.Table
	for _, k := range []struct {
		i   int
		row uint32
	}{{0, 0}, {1, 0x77073096}, {2, 0xEE0E612C}, {128, 0xEDB88320}, {254, 0x5A05DF1B}, {255, 0x2D02EF8D}} {
		if got := c.Row(k.i); got != k.row {
			t.Errorf("row %d: %x, want %x", k.i, got, k.row)
		}
	}
	for i := range 256 {
		if got, want := c.Row(i), moves(uint32(i), 8); got != want {
			t.Errorf("row %d: %x, want %x", i, got, want)
		}
	}
}

func TestNoRow(t *testing.T) {
	for _, i := range []int{-1, -2, -255, -256, 256, 257, 511, 512, 1 << 32, 1<<32 + 1, math.MaxInt, math.MinInt, math.MinInt + 1} {
		var c crc.Table
		for range 2 {
			if got := c.Row(i); got != 0 {
				t.Errorf("row %d: %x", i, got)
			}
			c.Row(1) // now the rows are made
		}
	}
}

// P2.1: Of.

func TestOfNothing(t *testing.T) {
	var c crc.Table
	for i, got := range []uint32{c.Of(), c.Of(nil), c.Of([]byte{}), c.Of(nil, []byte{}, nil), c.Of([][]byte{}...)} {
		if got != 0 {
			t.Errorf("%d: %x", i, got)
		}
	}
}

func TestOf(t *testing.T) {
	var c crc.Table
	for _, k := range []struct {
		b   string
		sum uint32
	}{
		{"123456789", 0xCBF43926},
		{"a", 0xE8B7BE43},
		{"abc", 0x352441C2},
		{"\x00", 0xD202EF8D},
		{"\x00\x00\x00\x00", 0x2144DF1C},
		{"\xff", 0xFF000000},
		{"\xff\xff\xff\xff", 0xFFFFFFFF},
	} {
		if got := c.Of([]byte(k.b)); got != k.sum {
			t.Errorf("%q: %x, want %x", k.b, got, k.sum)
		}
	}
}

func TestOfAnyBytes(t *testing.T) {
	var c crc.Table
	d := rand.New(rand.NewSource(1))
	for _, n := range lengths {
		b := drawn(d, n)
		if got := c.Of(b); got != plainSum(b) || got != crc32.ChecksumIEEE(b) {
			t.Errorf("%d bytes: %x, want %x", n, got, plainSum(b))
		}
	}
	for v := range 256 {
		b := []byte{byte(v)}
		if got := c.Of(b); got != plainSum(b) {
			t.Errorf("byte %d: %x, want %x", v, got, plainSum(b))
		}
	}
}

func TestOfParts(t *testing.T) {
	var c crc.Table
	digits := []byte("123456789")
	for i := range len(digits) + 1 {
		for j := i; j <= len(digits); j++ {
			if got := c.Of(digits[:i], nil, digits[i:j], []byte{}, digits[j:], nil); got != 0xCBF43926 {
				t.Errorf("parted at %d and %d: %x", i, j, got)
			}
		}
	}
	var singles [][]byte
	for i := range digits {
		singles = append(singles, digits[i:i+1])
	}
	if got := c.Of(singles...); got != 0xCBF43926 {
		t.Errorf("a part a byte: %x", got)
	}
	if c.Of([]byte("ab"), []byte("c")) == c.Of([]byte("c"), []byte("ab")) {
		t.Error("the parts' order makes no difference")
	}
}

// P2.1: More.

func TestMore(t *testing.T) {
	var c crc.Table
	d := rand.New(rand.NewSource(2))
	for _, n := range lengths {
		b := drawn(d, n)
		for _, i := range []int{0, n / 3, n / 2, n} {
			if got := c.More(c.Of(b[:i]), b[i:]); got != plainSum(b) {
				t.Errorf("%d bytes, and %d behind: %x, want %x", i, n-i, got, plainSum(b))
			}
		}
	}
}

func TestMoreOfAnySum(t *testing.T) {
	var c crc.Table
	d := rand.New(rand.NewSource(3))
	for _, sum := range []uint32{0, 1, 0x80000000, 0xFFFFFFFE, 0xFFFFFFFF, 0xEDB88320, 0xCBF43926, d.Uint32(), d.Uint32()} {
		if c.More(sum, nil) != sum || c.More(sum, []byte{}) != sum {
			t.Errorf("%x and no byte: %x", sum, c.More(sum, nil))
		}
		for _, n := range lengths {
			b := drawn(d, n)
			if got, want := c.More(sum, b), ^through(^sum, b); got != want {
				t.Errorf("%x and %d bytes: %x, want %x", sum, n, got, want)
			}
		}
	}
}

// P2.1: Mark.

func TestMark(t *testing.T) {
	var c crc.Table
	if got := c.Mark([]byte("123456789")); string(got) != "123456789\x26\x39\xf4\xcb" {
		t.Errorf("%q", got)
	}
	for _, none := range [][]byte{nil, {}} {
		if got := c.Mark(none); !bytes.Equal(got, []byte{0, 0, 0, 0}) {
			t.Errorf("no bytes: %v", got)
		}
	}
	d := rand.New(rand.NewSource(4))
	for _, n := range lengths {
		b := drawn(d, n)
		got := c.Mark(b)
		if !bytes.Equal(got, plainMark(b)) || !c.Holds(got) {
			t.Errorf("%d bytes: %v", n, got)
		}
		if twice := c.Mark(got); !bytes.Equal(twice, plainMark(got)) || !c.Holds(twice) {
			t.Errorf("%d bytes, marked twice: %v", n, twice)
		}
	}
}

// P2.1: Holds.

func TestHolds(t *testing.T) {
	var c crc.Table
	d := rand.New(rand.NewSource(5))
	for _, n := range lengths {
		if m := plainMark(drawn(d, n)); !c.Holds(m) {
			t.Errorf("%d bytes, marked, don't hold: %v", n, m)
		}
	}
}

func TestHoldsOfFewBytes(t *testing.T) {
	var c crc.Table
	for n := range 4 {
		for _, v := range []byte{0, 1, 255} {
			if b := bytes.Repeat([]byte{v}, n); c.Holds(b) {
				t.Errorf("%v hold", b)
			}
		}
	}
	if c.Holds(nil) {
		t.Error("nil holds")
	}
	if !c.Holds([]byte{0, 0, 0, 0}) {
		t.Error("no bytes, marked, don't hold")
	}
	for bit := range 32 {
		if b := turn(make([]byte, 4), bit, 1); c.Holds(b) {
			t.Errorf("%v hold", b)
		}
	}
	if c.Holds([]byte{255, 255, 255, 255}) {
		t.Error("four bytes 255 hold")
	}
}

func TestHoldsNotWithAnotherSum(t *testing.T) {
	var c crc.Table
	d := rand.New(rand.NewSource(6))
	for _, n := range lengths {
		m := plainMark(drawn(d, n))
		s := m[n:]
		for _, other := range [][]byte{
			{s[3], s[2], s[1], s[0]},
			{^s[0], ^s[1], ^s[2], ^s[3]},
		} {
			b := append(bytes.Clone(m[:n]), other...)
			if !bytes.Equal(b, m) && c.Holds(b) {
				t.Errorf("%d bytes hold with the sum %v instead of %v", n, other, s)
			}
		}
		if c.Holds(m[:len(m)-1]) || c.Holds(append(bytes.Clone(m), 1)) {
			t.Errorf("%d bytes, marked, hold with a byte less, or more", n)
		}
	}
}

// P2.2.

func TestJoin(t *testing.T) {
	var c crc.Table
	d := rand.New(rand.NewSource(7))
	for _, n := range lengths {
		for _, m := range lengths {
			one, two := drawn(d, m), drawn(d, n)
			want := plainSum(append(bytes.Clone(one), two...))
			if got := c.Join(plainSum(one), plainSum(two), n); got != want {
				t.Errorf("%d bytes and %d: %x, want %x", m, n, got, want)
			}
		}
	}
	if got := c.Join(c.Of([]byte("1234")), c.Of([]byte("56789")), 5); got != 0xCBF43926 {
		t.Errorf("the digits: %x", got)
	}
}

// pairs are sums, also such as no bytes were asked for.
var pairs = [][2]uint32{
	{0, 0}, {1, 0}, {0, 1}, {7, 8}, {0x80000000, 3}, {0xFFFFFFFF, 0}, {0, 0xFFFFFFFF}, {0xFFFFFFFF, 0xFFFFFFFF},
	{0xEDB88320, 0x12345678}, {0xCBF43926, 0xCBF43926}, {0xDEADBEEF, 0x77073096},
}

func TestJoinIsSecondXorFirstBehindZeros(t *testing.T) {
	var c crc.Table
	for _, p := range pairs {
		for n := range 70 {
			want := p[1] ^ through(p[0], make([]byte, n))
			if got := c.Join(p[0], p[1], n); got != want {
				t.Errorf("%x, %x, %d: %x, want %x", p[0], p[1], n, got, want)
			}
		}
	}
}

func TestJoinOfNone(t *testing.T) {
	var c crc.Table
	for _, p := range pairs {
		for _, n := range []int{0, -1, -2, -3, -8, -(1 << 32), math.MinInt, math.MinInt + 1} {
			if got := c.Join(p[0], p[1], n); got != p[0]^p[1] {
				t.Errorf("%x, %x, %d: %x, want %x", p[0], p[1], n, got, p[0]^p[1])
			}
		}
	}
}

func TestJoinOfVeryMany(t *testing.T) {
	var c crc.Table
	for _, n := range []int{
		1 << 16, 1<<20 + 1, 1<<31 - 1, 1 << 31, 1<<32 - 2, 1<<32 - 1, 1 << 32, 1<<32 + 1,
		1<<60 - 1, 1 << 61, 1<<61 + 1, 1 << 62, 1<<62 + 5, math.MaxInt - 1, math.MaxInt,
	} {
		for _, p := range pairs {
			if got, want := c.Join(p[0], p[1], n), p[1]^byZeros(p[0], n); got != want {
				t.Errorf("%x, %x, %d: %x, want %x", p[0], p[1], n, got, want)
			}
		}
	}
	// The registers come round behind 2^32 - 1 moves, so behind as many bytes.
	for _, p := range pairs {
		if got := c.Join(p[0], p[1], 1<<32-1); got != p[0]^p[1] {
			t.Errorf("%x, %x, once round: %x", p[0], p[1], got)
		}
		if got := c.Join(c.Join(p[0], 0, math.MaxInt), p[1], 1<<31); got != p[0]^p[1] {
			t.Errorf("%x, %x, MaxInt and on: %x", p[0], p[1], got)
		}
	}
}

// P2.3.

// patterns are bits turned within 32 in a row: all of them, the ends alone, and such as are drawn. The
// lowest bit of each is 1, so that it lies where it is said to.
func patterns(d *rand.Rand) []uint32 {
	all := []uint32{1, 3, 0x80000001, 0xFFFFFFFF, 0x7FFFFFFF, 0xFFFF, 0xFF, 0xEDB88321, 0x1DB71065, 0xAAAAAAAB, 0x55555555}
	for range 8 {
		all = append(all, d.Uint32()|1)
	}
	return all
}

// width is how many bits a pattern has, to its highest 1.
func width(pattern uint32) int {
	n := 0
	for ; pattern > 0; pattern >>= 1 {
		n++
	}
	return n
}

func TestUnlikeWithin32Bits(t *testing.T) {
	var c crc.Table
	d := rand.New(rand.NewSource(8))
	for _, n := range []int{1, 2, 3, 4, 5, 6, 9, 40, 300} {
		b := drawn(d, n)
		sum := c.Of(b)
		for _, p := range patterns(d) {
			for start := 0; start+width(p) <= 8*n; start++ {
				if c.Of(turn(b, start, p)) == sum {
					t.Fatalf("%d bytes, bits %x turned at %d: the same sum", n, p, start)
				}
			}
		}
	}
}

func TestTurnedWithin32BitsDoesNotHold(t *testing.T) {
	var c crc.Table
	d := rand.New(rand.NewSource(9))
	for _, n := range []int{0, 1, 2, 3, 4, 5, 9, 40, 300} {
		m := c.Mark(drawn(d, n))
		for _, p := range patterns(d) {
			for start := 0; start+width(p) <= 8*len(m); start++ {
				if c.Holds(turn(m, start, p)) {
					t.Fatalf("%d bytes, marked, bits %x turned at %d: still marked", n, p, start)
				}
			}
		}
	}
}

func TestFirstAndLastBit(t *testing.T) {
	var c crc.Table
	m := c.Mark([]byte("123456789"))
	for _, bit := range []int{0, 8*len(m) - 1, 8*9 - 1, 8 * 9} {
		if c.Holds(turn(m, bit, 1)) {
			t.Errorf("bit %d turned: still marked", bit)
		}
	}
	b := []byte("123456789")
	for _, bit := range []int{0, 8*len(b) - 1} {
		if c.Of(turn(b, bit, 1)) == c.Of(b) {
			t.Errorf("bit %d turned: the same sum", bit)
		}
	}
	for _, start := range []int{0, 1, 3, 7, 8, 8*9 - 31, 8*9 - 16, 8*9 - 1, 8*len(m) - 32} {
		if c.Holds(turn(m, start, 0xFFFFFFFF)) {
			t.Errorf("32 bits turned from %d on: still marked", start)
		}
	}
}

// All calls: a zero Table, what is handed in, and what is answered.

// asks are all calls, and what each answers.
func asks() map[string]struct {
	ask  func(c *crc.Table) any
	want any
} {
	type one = struct {
		ask  func(c *crc.Table) any
		want any
	}
	return map[string]one{
		"Row":      {func(c *crc.Table) any { return c.Row(1) }, uint32(0x77073096)},
		"last Row": {func(c *crc.Table) any { return c.Row(255) }, uint32(0x2D02EF8D)},
		"no Row":   {func(c *crc.Table) any { return c.Row(256) }, uint32(0)},
		"Of":       {func(c *crc.Table) any { return c.Of([]byte("1234"), []byte("56789")) }, uint32(0xCBF43926)},
		"Of none":  {func(c *crc.Table) any { return c.Of() }, uint32(0)},
		"More":     {func(c *crc.Table) any { return c.More(plainSum([]byte("1234")), []byte("56789")) }, uint32(0xCBF43926)},
		"Join": {func(c *crc.Table) any { return c.Join(plainSum([]byte("1234")), plainSum([]byte("56789")), 5) },
			uint32(0xCBF43926)},
		"Mark":      {func(c *crc.Table) any { return string(c.Mark([]byte("123456789"))) }, "123456789\x26\x39\xf4\xcb"},
		"Holds":     {func(c *crc.Table) any { return c.Holds([]byte("123456789\x26\x39\xf4\xcb")) }, true},
		"not Holds": {func(c *crc.Table) any { return c.Holds([]byte("123456788\x26\x39\xf4\xcb")) }, false},
	}
}

func TestZeroTableAnswersAtOnce(t *testing.T) {
	for first, a := range asks() {
		for second, b := range asks() {
			var c crc.Table
			if got := a.ask(&c); got != a.want {
				t.Errorf("%s first: %#v, want %#v", first, got, a.want)
			}
			if got := b.ask(&c); got != b.want {
				t.Errorf("%s behind %s: %#v, want %#v", second, first, got, b.want)
			}
			if got := a.ask(&c); got != a.want {
				t.Errorf("%s again, behind %s: %#v, want %#v", first, second, got, a.want)
			}
		}
	}
}

func TestTablesDoNotDisturbOneAnother(t *testing.T) {
	var one, other crc.Table
	one.Of([]byte("abc"))
	for name, a := range asks() {
		if got := a.ask(&other); got != a.want {
			t.Errorf("%s: %#v, want %#v", name, got, a.want)
		}
		if got := a.ask(&one); got != a.want {
			t.Errorf("%s of the first: %#v, want %#v", name, got, a.want)
		}
	}
}

func TestWhatIsHandedInIsNotChanged(t *testing.T) {
	var c crc.Table
	// There is room behind each part: nothing may be written there, either.
	whole := []byte("123456789\x26\x39\xf4\xcb and more")
	before := bytes.Clone(whole)
	parts := [][]byte{whole[:4], nil, whole[4:9]}
	for name, do := range map[string]func(){
		"Of":        func() { c.Of(parts...) },
		"More":      func() { c.More(7, whole[:9]) },
		"Mark":      func() { c.Mark(whole[:9]) },
		"Mark none": func() { c.Mark(whole[:0]) },
		"Holds":     func() { c.Holds(whole[:13]) },
		"not Holds": func() { c.Holds(whole[:9]) },
	} {
		do()
		if !bytes.Equal(whole, before) {
			t.Errorf("%s changed what was handed in: %q", name, whole)
		}
	}
	if len(parts) != 3 || string(parts[0]) != "1234" || parts[1] != nil || string(parts[2]) != "56789" {
		t.Errorf("the parts are changed: %q", parts)
	}
}

func TestWhatIsHandedInIsNotKept(t *testing.T) {
	var c crc.Table
	b := []byte("123456789\x26\x39\xf4\xcb")
	want := plainSum([]byte("xxxx56789"))
	c.Of(b[:4], b[4:9])
	c.More(0, b[:9])
	c.Holds(b)
	copy(b, "xxxx")
	if c.Of(b[:4], b[4:9]) != want || c.More(0, b[:9]) != want || c.Holds(b) {
		t.Error("what was handed in earlier is still told")
	}
	if got := c.Of([]byte("123456789")); got != 0xCBF43926 {
		t.Errorf("the first bytes again: %x", got)
	}
}

func TestMarkSharesNothing(t *testing.T) {
	var c crc.Table
	for _, n := range lengths {
		roomy := make([]byte, n, n+64)
		one, other := c.Mark(roomy), c.Mark(roomy)
		want := plainMark(make([]byte, n))
		for i := range one {
			one[i] ^= 255
		}
		_ = append(one, 1, 2, 3, 4, 5, 6, 7, 8)
		if !bytes.Equal(other, want) {
			t.Errorf("%d bytes: two answers share memory: %v", n, other)
		}
		if all := roomy[:cap(roomy)]; !bytes.Equal(all, make([]byte, n+64)) {
			t.Errorf("%d bytes: an answer shares memory with what was handed in: %v", n, all)
		}
		for i := range roomy {
			roomy[i] = 9
		}
		if !bytes.Equal(other, want) {
			t.Errorf("%d bytes: what was handed in is kept in the answer: %v", n, other)
		}
		if got := c.Mark(make([]byte, n)); !bytes.Equal(got, want) {
			t.Errorf("%d bytes: an answer is kept: %v", n, got)
		}
	}
}

// P1, K6, K7: whatever is asked, in whatever order, each call answers the same as without a Table.
func TestAnyCalls(t *testing.T) {
	var c crc.Table
	d := rand.New(rand.NewSource(10))
	for i := range 3000 {
		b, sum, n := drawn(d, d.Intn(20)), d.Uint32(), int(d.Uint64()>>d.Intn(64))
		if d.Intn(2) == 0 {
			b = plainMark(b)
		}
		held := len(b) >= 4 && bytes.Equal(plainMark(b[:len(b)-4]), b)
		row := uint32(0)
		if n >= 0 && n <= 255 {
			row = moves(uint32(n), 8)
		}
		got := fmt.Sprint(c.Row(n), c.Of(b), c.More(sum, b), c.Join(sum, 5, n), c.Mark(b), c.Holds(b))
		want := fmt.Sprint(row, plainSum(b), ^through(^sum, b), 5^byZeros(sum, n), plainMark(b), held)
		if got != want {
			t.Fatalf("%d: %v, sum %x, n %d: %s, want %s", i, b, sum, n, got, want)
		}
	}
}
