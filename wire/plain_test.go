package wire_test

import (
	"bytes"
	"fmt"
	"math"
	"math/rand"
	"reflect"
	"slices"
	"strings"
	"testing"

	"quidnunc/api"
	"quidnunc/entry"
	"quidnunc/octets"
	"quidnunc/wire"
)

// A plain layer 16, written down from the document's tables: what a kind has stands there as a text.

// plainKind is a line of the document's second table.
type plainKind struct {
	name, fields string
	least, most  int
}

// plainKinds is the document's second table.
var plainKinds = tableOfKinds()

func tableOfKinds() map[int]plainKind {
	l := map[int]plainKind{
		2: {"forward", "Peer Hops", 0, 0}, 3: {"neighbor", "High", 0, 0},
		7: {"shuffle", "Peer Hops Peers", 0, 0}, 8: {"swap", "Peers", 0, 0},
		10: {"gossip", "Entries", 1, 1}, 11: {"have", "Marks", 1, 8}, 12: {"graft", "Marks", 1, 1},
		14: {"rumors", "Entries", 1, 8}, 15: {"echo", "Marks Entries", 0, 8},
		16: {"check", "Number Sum Entries", 0, 8}, 17: {"match", "Number Sum Entries", 0, 8},
		18: {"peel", "Number Mark Entries", 0, 8}, 19: {"pile", "Number Sum Mark Entries", 0, 8},
	}
	for kind, name := range map[int]string{1: "join", 4: "accept", 5: "refuse", 6: "part", 9: "beat", 13: "prune"} {
		l[kind] = plainKind{name: name}
	}
	return l
}

// has tells whether a kind has a field.
func (k plainKind) has(field string) bool { return slices.Contains(strings.Fields(k.fields), field) }

// allFields are the fields' names, in the order of their bytes.
var allFields = []string{"Peer", "Hops", "High", "Peers", "Number", "Sum", "Mark", "Marks", "Entries"}

// empty tells whether a field is 0, false, or empty.
func empty(m wire.Message, field string) bool {
	switch field {
	case "Peer":
		return m.Peer == 0
	case "Hops":
		return m.Hops == 0
	case "High":
		return !m.High
	case "Peers":
		return len(m.Peers) == 0
	case "Number":
		return m.Number == 0
	case "Sum":
		return m.Sum == 0
	case "Mark":
		return m.Mark == api.Mark{}
	case "Marks":
		return len(m.Marks) == 0
	}
	return len(m.Entries) == 0
}

// plainMark tells whether a mark of Marks may be.
func plainMark(k api.Mark) bool {
	c, s, n := k.Act.Counter, k.Act.Site, len(k.Key)
	return c > 0 && c < 1<<32 && s > -1 && s < 12 && n > 0 && n < 17
}

// fits tells whether a field is as it may be, where a kind has it.
func fits(m wire.Message, field string, k plainKind) bool {
	ok := true
	switch field {
	case "Peer":
		ok = m.Peer > -1 && m.Peer < 12
	case "Hops":
		ok = m.Hops > -1 && m.Hops < 9
	case "Peers":
		for _, n := range m.Peers {
			ok = ok && n > -1 && n < 12
		}
		ok = ok && len(m.Peers) < 9
	case "Number":
		ok = m.Number > -1 && m.Number < 1<<32
	case "Mark":
		ok = m.Mark == api.Mark{} || plainMark(m.Mark)
	case "Marks":
		for _, n := range m.Marks {
			ok = ok && plainMark(n)
		}
		ok = ok && len(m.Marks) >= k.least && len(m.Marks) <= k.most
	case "Entries":
		for _, e := range m.Entries {
			ok = ok && entry.Check(e) == api.OK
		}
		ok = ok && len(m.Entries) >= k.least && len(m.Entries) <= k.most
	}
	return ok
}

// plainGood is what the document says of Good.
func plainGood(m wire.Message) api.Errno {
	k, ok := plainKinds[m.Kind]
	if !ok {
		return api.ErrArg
	}
	for _, field := range allFields {
		if k.has(field) && !fits(m, field, k) || !k.has(field) && !empty(m, field) {
			return api.ErrForm
		}
	}
	return api.OK
}

// plainSame is what the document says of Same, by all that there is to be seen of messages.
func plainSame(a, b wire.Message) bool {
	listed := func(m wire.Message) wire.Message {
		m.Peers, m.Marks, m.Entries = append([]int{}, m.Peers...), append([]api.Mark{}, m.Marks...), append([]api.Entry{}, m.Entries...)
		return m
	}
	return reflect.DeepEqual(listed(a), listed(b))
}

// lowest gives a number's lowest bytes.
func lowest(v uint64, n int) []byte {
	var b []byte
	for range n {
		b = append(b, byte(v))
		v >>= 8
	}
	return b
}

// markBytes gives a mark's bytes.
func markBytes(k api.Mark) []byte {
	b := append(lowest(uint64(k.Act.Counter), 4), byte(k.Act.Site), byte(len(k.Key)))
	return append(b, k.Key...)
}

// entryBytes gives an entry's bytes, as layer 5 has them, whether it may be or not.
func entryBytes(e api.Entry) []byte {
	var w octets.Writer
	entry.Lay(&w, e)
	return w.Bytes()
}

// plainBytes gives a message's body, whether it may be or not, as far as its fields go into these bytes.
func plainBytes(m wire.Message) []byte {
	var b []byte
	for _, field := range strings.Fields(plainKinds[m.Kind].fields) {
		switch field {
		case "Peer":
			b = append(b, byte(m.Peer))
		case "Hops":
			b = append(b, byte(m.Hops))
		case "High":
			b = append(b, map[bool]byte{true: 1}[m.High])
		case "Peers":
			b = append(b, byte(len(m.Peers)))
			for _, n := range m.Peers {
				b = append(b, byte(n))
			}
		case "Number":
			b = append(b, lowest(uint64(m.Number), 4)...)
		case "Sum":
			b = append(b, lowest(m.Sum, 8)...)
		case "Mark":
			b = append(b, markBytes(m.Mark)...)
		case "Marks":
			b = append(b, byte(len(m.Marks)))
			for _, k := range m.Marks {
				b = append(b, markBytes(k)...)
			}
		case "Entries":
			b = append(b, byte(len(m.Entries)))
			for _, e := range m.Entries {
				b = append(b, entryBytes(e)...)
			}
		}
	}
	return b
}

// cursor takes from bytes, until its first error.
type cursor struct {
	b    []byte
	code api.Errno
}

func (c *cursor) fail(code api.Errno) {
	if c.code == api.OK {
		c.code = code
	}
}

// number takes one of so many bytes.
func (c *cursor) number(n int) uint64 {
	if len(c.b) < n {
		c.fail(api.ErrShort)
	}
	if c.code != api.OK {
		return 0
	}
	v := uint64(0)
	for i := range n {
		v += uint64(c.b[i]) << (8 * i)
	}
	c.b = c.b[n:]
	return v
}

// upTo takes one byte, that is no more than most.
func (c *cursor) upTo(most int) int {
	n := int(c.number(1))
	if n > most {
		c.fail(api.ErrForm)
	}
	if c.code != api.OK {
		return 0
	}
	return n
}

func (c *cursor) mark() api.Mark {
	counter, site := int(c.number(4)), int(c.number(1))
	key := make([]byte, c.upTo(16))
	for i := range key {
		key[i] = byte(c.number(1))
	}
	return api.Mark{Act: api.Stamp{Counter: counter, Site: site}, Key: string(key)}
}

func (c *cursor) entry() api.Entry {
	if c.code != api.OK {
		return api.Entry{}
	}
	r := octets.Read(c.b)
	e := entry.Take(r)
	c.code, c.b = r.Err(), c.b[len(c.b)-r.Left():]
	return e
}

// plainDecode is what the document says of Decode.
func plainDecode(kind int, body []byte) (wire.Message, api.Errno) {
	k, ok := plainKinds[kind]
	if !ok {
		return wire.Message{}, api.ErrArg
	}
	m, c := wire.Message{Kind: kind}, &cursor{b: body}
	for _, field := range strings.Fields(k.fields) {
		switch field {
		case "Peer":
			m.Peer = int(c.number(1))
		case "Hops":
			m.Hops = int(c.number(1))
		case "High":
			m.High = c.upTo(1) == 1
		case "Peers":
			for range c.upTo(8) {
				m.Peers = append(m.Peers, int(c.number(1)))
			}
		case "Number":
			m.Number = int(c.number(4))
		case "Sum":
			m.Sum = c.number(8)
		case "Mark":
			m.Mark = c.mark()
		case "Marks":
			for range c.upTo(8) {
				m.Marks = append(m.Marks, c.mark())
			}
		case "Entries":
			for range c.upTo(8) {
				m.Entries = append(m.Entries, c.entry())
			}
		}
	}
	if c.code == api.OK && (plainGood(m) != api.OK || len(c.b) > 0) {
		c.code = api.ErrForm
	}
	if c.code != api.OK {
		return wire.Message{}, c.code
	}
	return m, api.OK
}

// Both of them, beside one another.

// isAsPlain fails the test where a message is anything else than the plain layer says.
func isAsPlain(t *testing.T, what string, m wire.Message) {
	t.Helper()
	code := plainGood(m)
	if got := wire.Good(m); got != code {
		t.Fatalf("%s: Good is %d, want %d: %#v", what, got, code, m)
	}
	var want []byte
	if code == api.OK {
		want = plainBytes(m)
	}
	if body, got := wire.Encode(m); got != code || !bytes.Equal(body, want) {
		t.Fatalf("%s: Encode is %v, %d, want %v, %d: %#v", what, body, got, want, code, m)
	}
}

// isReadAsPlain fails the test where a body is anything else than the plain layer says; else it gives the answer.
func isReadAsPlain(t *testing.T, what string, kind int, body []byte) (wire.Message, api.Errno) {
	t.Helper()
	m, code := wire.Decode(kind, body)
	want, wanted := plainDecode(kind, body)
	if code != wanted || !plainSame(m, want) {
		t.Fatalf("%s: kind %d, body %v: %#v, %d, want %#v, %d", what, kind, body, m, code, want, wanted)
	}
	if code == api.OK {
		if again, code := wire.Encode(m); code != api.OK || !bytes.Equal(again, body) {
			t.Fatalf("%s: kind %d: the body %v is put as %v, %d", what, kind, body, again, code)
		}
	}
	return m, code
}

func TestMessagesBesidePlainOnes(t *testing.T) {
	r := rand.New(rand.NewSource(1))
	may, mayNot := 0, 0
	for i := range 40000 {
		m := drawMessage(r, 1+r.Intn(19))
		for range r.Intn(3) {
			spoil(r, &m)
		}
		isAsPlain(t, fmt.Sprint("message ", i), m)
		if wire.Good(m) == api.OK {
			may++
		} else {
			mayNot++
		}
	}
	if may < 10000 || mayNot < 10000 {
		t.Fatal("too few of a sort: ", may, mayNot)
	}
}

func TestBodiesBesidePlainOnes(t *testing.T) {
	r := rand.New(rand.NewSource(2))
	codes := map[api.Errno]int{}
	for i := range 60000 {
		m := drawMessage(r, 1+r.Intn(19))
		for range r.Intn(3) {
			spoil(r, &m)
		}
		body := spoilBytes(r, plainBytes(m))
		kind := m.Kind
		if r.Intn(8) == 0 {
			kind = r.Intn(22) - 1
		}
		_, code := isReadAsPlain(t, fmt.Sprint("body ", i), kind, body)
		codes[code]++
	}
	for _, code := range []api.Errno{api.OK, api.ErrArg, api.ErrForm, api.ErrShort} {
		if codes[code] < 900 {
			t.Fatal("too few of a sort: ", codes)
		}
	}
}

// edges are bytes near those that the document names.
var edges = []byte{0, 1, 2, 3, 7, 8, 9, 10, 11, 12, 13, 255}

// All bodies of up to four such bytes.
func TestSmallBodiesBesidePlainOnes(t *testing.T) {
	var all func(kind int, body []byte)
	all = func(kind int, body []byte) {
		isReadAsPlain(t, "a small body", kind, body)
		if len(body) == 4 {
			return
		}
		for _, b := range edges {
			all(kind, append(slices.Clone(body), b))
		}
	}
	for _, kind := range []int{0, wire.Join, wire.Forward, wire.Neighbor, wire.Shuffle, wire.Swap, wire.Beat, wire.Gossip, wire.Have, wire.Echo, wire.Peel, 20} {
		all(kind, nil)
	}
}

// Each byte of a body, turned into others.
func TestBodiesWithOneOtherByteBesidePlainOnes(t *testing.T) {
	r := rand.New(rand.NewSource(3))
	for kind := 1; kind <= 19; kind++ {
		for range 6 {
			body := plainBytes(drawMessage(r, kind))
			for at := range min(len(body), 200) {
				for _, other := range append(slices.Clone(edges), 16, 17, 32, 33, 128, byte(r.Intn(256))) {
					turned := slices.Clone(body)
					turned[at] = other
					isReadAsPlain(t, fmt.Sprint("at ", at), kind, turned)
				}
			}
		}
	}
}

func TestSameBesidePlainOnes(t *testing.T) {
	r := rand.New(rand.NewSource(4))
	same, other := 0, 0
	for i := range 30000 {
		a := drawMessage(r, 1+r.Intn(19))
		b := copied(a)
		for range r.Intn(3) {
			spoil(r, &b)
		}
		if r.Intn(4) == 0 {
			b = drawMessage(r, a.Kind)
		}
		want := plainSame(a, b)
		if wire.Same(a, b) != want || wire.Same(b, a) != want {
			t.Fatalf("%d: Same isn't %v: %#v, %#v", i, want, a, b)
		}
		if want {
			same++
		} else {
			other++
		}
	}
	if same < 5000 || other < 5000 {
		t.Fatal("too few of a sort: ", same, other)
	}
}

// What is drawn.

// copied gives a message with lists of its own.
func copied(m wire.Message) wire.Message {
	m.Peers, m.Marks, m.Entries = slices.Clone(m.Peers), slices.Clone(m.Marks), slices.Clone(m.Entries)
	return m
}

// drawText draws a text of so many bytes.
func drawText(r *rand.Rand, n int) string {
	b := make([]byte, n)
	r.Read(b)
	return string(b)
}

// drawStamp draws one that may be.
func drawStamp(r *rand.Rand) api.Stamp {
	return at([]int{1, 2, 258, greatest, 1 + r.Intn(greatest)}[r.Intn(5)], r.Intn(12))
}

// drawMark draws one that may be.
func drawMark(r *rand.Rand) api.Mark {
	return api.Mark{Act: drawStamp(r), Key: drawText(r, 1+r.Intn(16))}
}

// drawEntry draws one that may be.
func drawEntry(r *rand.Rand) api.Entry {
	s, key := drawStamp(r), drawText(r, 1+r.Intn(16))
	if r.Intn(2) == 0 {
		return live(key, drawText(r, r.Intn(33)), s)
	}
	e := dead(key, s, s, 1+r.Intn(4095), r.Intn(1<<31))
	if r.Intn(2) == 0 && s.Counter < greatest {
		e.Act = at(s.Counter+1, r.Intn(12))
	}
	return e
}

// drawList draws a list of so many.
func drawList[T any](r *rand.Rand, least, most int, draw func(r *rand.Rand) T) []T {
	var l []T
	for range least + r.Intn(most-least+1) {
		l = append(l, draw(r))
	}
	return l
}

// drawMessage draws one of a kind, that may be.
func drawMessage(r *rand.Rand, kind int) wire.Message {
	k := plainKinds[kind]
	m := wire.Message{Kind: kind}
	for _, field := range strings.Fields(k.fields) {
		switch field {
		case "Peer":
			m.Peer = r.Intn(12)
		case "Hops":
			m.Hops = r.Intn(9)
		case "High":
			m.High = r.Intn(2) == 0
		case "Peers":
			m.Peers = drawList(r, 0, 8, func(r *rand.Rand) int { return r.Intn(12) })
		case "Number":
			m.Number = []int{0, 1, 258, greatest, r.Intn(greatest)}[r.Intn(5)]
		case "Sum":
			m.Sum = []uint64{0, 1, 1 << 63, math.MaxUint64, r.Uint64()}[r.Intn(5)]
		case "Mark":
			if r.Intn(3) > 0 {
				m.Mark = drawMark(r)
			}
		case "Marks":
			m.Marks = drawList(r, k.least, k.most, drawMark)
		case "Entries":
			m.Entries = drawList(r, k.least, k.most, drawEntry)
		}
	}
	return m
}

// spoilMark changes one thing of a mark.
func spoilMark(r *rand.Rand, k *api.Mark) {
	switch r.Intn(4) {
	case 0:
		k.Act.Counter = []int{0, -1, 1, greatest, greatest + 1}[r.Intn(5)]
	case 1:
		k.Act.Site = []int{-1, 0, 11, 12}[r.Intn(4)]
	case 2:
		k.Key = drawText(r, []int{0, 1, 16, 17}[r.Intn(4)])
	case 3:
		*k = api.Mark{}
	}
}

// spoilEntry changes one thing of an entry.
func spoilEntry(r *rand.Rand, e *api.Entry) {
	switch r.Intn(7) {
	case 0:
		e.Key = drawText(r, []int{0, 1, 16, 17}[r.Intn(4)])
	case 1:
		e.Value = drawText(r, []int{0, 1, 32, 33}[r.Intn(4)])
	case 2:
		e.Dead = !e.Dead
	case 3:
		e.Stamp.Counter = []int{0, 1, 3, greatest}[r.Intn(4)]
	case 4:
		e.Act.Site = []int{0, 11, 12}[r.Intn(3)]
	case 5:
		e.Keepers = []int{0, 1, 4095, 4096}[r.Intn(4)]
	case 6:
		e.Age = []int{0, 1, 1<<31 - 1, 1 << 31}[r.Intn(4)]
	}
}

// spoil changes one thing of a message, so that it may still be or not.
func spoil(r *rand.Rand, m *wire.Message) {
	switch r.Intn(12) {
	case 0:
		m.Peer = []int{0, 1, 11, 12, -1, math.MaxInt, math.MinInt}[r.Intn(7)]
	case 1:
		m.Hops = []int{0, 1, 8, 9, -1, math.MaxInt, math.MinInt}[r.Intn(7)]
	case 2:
		m.High = !m.High
	case 3:
		m.Peers = drawList(r, 0, 9, func(r *rand.Rand) int { return r.Intn(14) - 1 })
	case 4:
		m.Number = []int{0, 1, greatest, greatest + 1, -1, math.MaxInt, math.MinInt}[r.Intn(7)]
	case 5:
		m.Sum = uint64(r.Intn(2))
	case 6:
		spoilMark(r, &m.Mark)
	case 7:
		m.Marks = drawList(r, 0, 9, drawMark)
	case 8:
		m.Entries = drawList(r, 0, 9, drawEntry)
	case 9:
		if len(m.Marks) > 0 {
			spoilMark(r, &m.Marks[r.Intn(len(m.Marks))])
		}
	case 10:
		if len(m.Entries) > 0 {
			spoilEntry(r, &m.Entries[r.Intn(len(m.Entries))])
		}
	case 11:
		m.Peers, m.Marks, m.Entries = append([]int{}, m.Peers...), append([]api.Mark{}, m.Marks...), append([]api.Entry{}, m.Entries...)
	}
}

// spoilBytes changes a body, in one way or in none.
func spoilBytes(r *rand.Rand, b []byte) []byte {
	switch r.Intn(6) {
	case 0:
		return b[:r.Intn(len(b)+1)]
	case 1:
		return append(slices.Clone(b), byte(r.Intn(3)))
	case 2:
		if len(b) > 0 {
			b[r.Intn(len(b))] = byte(r.Intn(256))
		}
	case 3:
		if len(b) > 0 {
			b[r.Intn(len(b))] = byte(r.Intn(14))
			b = b[:1+r.Intn(len(b))]
		}
	}
	return b
}
