package wire_test

import (
	"bytes"
	"fmt"
	"math"
	"slices"
	"strings"
	"testing"

	"quidnunc/api"
	"quidnunc/wire"
)

const greatest = 1<<32 - 1 // of a counter, and of a Number

// at gives a stamp, that may be or not.
func at(counter, site int) api.Stamp { return api.Stamp{Counter: counter, Site: site} }

// live gives a live entry, that may be if these may be.
func live(key, value string, s api.Stamp) api.Entry {
	return api.Entry{Key: key, Value: value, Stamp: s, Act: s}
}

// dead gives a certificate, that may be if these may be.
func dead(key string, s, act api.Stamp, keepers, age int) api.Entry {
	return api.Entry{Key: key, Dead: true, Stamp: s, Act: act, Keepers: keepers, Age: age}
}

// text gives a text of so many bytes.
func text(n int) string { return strings.Repeat("x", n) }

// times gives a list of so many of one thing.
func times[T any](n int, one T) []T {
	var l []T
	for range n {
		l = append(l, one)
	}
	return l
}

// A mark and an entry that may be.
var (
	aMark   = api.Mark{Act: at(258, 3), Key: "k"}
	anEntry = live("k", "v", at(1, 2))
)

// noKinds are numbers that no kind has.
var noKinds = []int{0, 20, -1, -19, 21, 31, 32, 255, 256, 257, 256 + 19, 1<<32 + 1, -1 << 32, math.MaxInt, math.MinInt, math.MinInt + 1}

// goodMarks are such that may be.
var goodMarks = []api.Mark{
	aMark, {Act: at(1, 0), Key: "\x00"}, {Act: at(greatest, 11), Key: text(16)}, {Act: at(1<<31, 5), Key: "grüße"}, {Act: at(0x04030201, 11), Key: "\xff\xfe"},
}

// badMarks are such that may not be, each for one reason, but the zero mark, which may be alone.
var badMarks = []api.Mark{
	{Act: at(258, 3)}, {Act: at(258, 3), Key: text(17)}, {Act: at(258, 3), Key: text(300)},
	{Act: at(0, 3), Key: "k"}, {Act: at(-1, 3), Key: "k"}, {Act: at(greatest+1, 3), Key: "k"}, {Act: at(math.MaxInt, 3), Key: "k"}, {Act: at(math.MinInt, 3), Key: "k"},
	{Act: at(258, -1), Key: "k"}, {Act: at(258, 12), Key: "k"}, {Act: at(258, 256), Key: "k"}, {Act: at(258, math.MaxInt), Key: "k"}, {Act: at(258, math.MinInt), Key: "k"},
	{Key: "k"}, {Act: at(1, 0)}, {Act: at(0, 1)}, {Act: at(0, 0), Key: "\x00"},
}

// goodEntries are such that may be.
var goodEntries = []api.Entry{
	anEntry, live("\x00", "", at(1, 0)), live(text(16), text(32), at(greatest, 11)),
	dead("k", at(1, 0), at(1, 0), 1, 0), dead(text(16), at(7, 11), at(greatest, 11), 4095, 1<<31-1), dead("k", at(7, 3), at(7, 4), 2048, 9),
}

// badEntries are such that may not be, each for one reason.
var badEntries = []api.Entry{
	{}, live("", "v", at(1, 2)), live(text(17), "v", at(1, 2)), live("k", text(33), at(1, 2)),
	live("k", "v", at(0, 2)), live("k", "v", at(greatest+1, 2)), live("k", "v", at(1, 12)), live("k", "v", at(1, -1)),
	{Key: "k", Value: "v", Stamp: at(1, 2), Act: at(2, 2)}, {Key: "k", Stamp: at(1, 2), Act: at(1, 2), Keepers: 1}, {Key: "k", Stamp: at(1, 2), Act: at(1, 2), Age: 1},
	dead("k", at(1, 2), at(1, 2), 0, 0), dead("k", at(1, 2), at(1, 2), 4096, 0), dead("k", at(1, 2), at(1, 1), 1, 0),
	dead("k", at(1, 2), at(1, 2), 1, -1), dead("k", at(1, 2), at(1, 2), 1, 1<<31), {Key: "k", Value: "v", Dead: true, Stamp: at(1, 2), Act: at(1, 2), Keepers: 1},
}

// full gives a message of a kind, that may be, none of whose fields is 0, false, or empty.
func full(kind int) wire.Message {
	m := wire.Message{Kind: kind}
	for _, field := range strings.Fields(plainKinds[kind].fields) {
		fill(&m, field)
	}
	return m
}

// fill gives a field something that isn't 0, false, or empty.
func fill(m *wire.Message, field string) {
	switch field {
	case "Peer":
		m.Peer = 7
	case "Hops":
		m.Hops = 3
	case "High":
		m.High = true
	case "Peers":
		m.Peers = []int{3, 11, 0}
	case "Number":
		m.Number = 0x04030201
	case "Sum":
		m.Sum = 0x0807060504030201
	case "Mark":
		m.Mark = api.Mark{Act: at(0x100, 11), Key: "ab"}
	case "Marks":
		m.Marks = []api.Mark{aMark}
	case "Entries":
		m.Entries = []api.Entry{anEntry}
	}
}

// having gives the kinds that have a field.
func having(field string) []int {
	var l []int
	for kind := 1; kind <= 19; kind++ {
		if plainKinds[kind].has(field) {
			l = append(l, kind)
		}
	}
	return l
}

// is fails the test where a message isn't answered so by Good and Encode, or, where it may be, isn't decoded as it was.
func is(t *testing.T, what string, m wire.Message, code api.Errno) {
	t.Helper()
	what = fmt.Sprintf("%s of kind %d", what, m.Kind)
	if got := wire.Good(m); got != code {
		t.Errorf("%s: Good is %d, want %d: %#v", what, got, code, m)
	}
	body, got := wire.Encode(m)
	if got != code || code != api.OK && len(body) > 0 {
		t.Errorf("%s: Encode is %v, %d, want %d: %#v", what, body, got, code, m)
	}
	if code != api.OK || got != api.OK {
		return
	}
	if again, code := wire.Decode(m.Kind, body); code != api.OK || !plainSame(again, m) {
		t.Errorf("%s: decoded as %#v, %d, was %#v", what, again, code, m)
	}
}

// zero tells whether a message is the zero one.
func zero(m wire.Message) bool { return plainSame(m, wire.Message{}) }

// reads fails the test where a body isn't answered so.
func reads(t *testing.T, what string, kind int, body []byte, code api.Errno) {
	t.Helper()
	m, got := wire.Decode(kind, body)
	if got != code || code != api.OK && !zero(m) || code == api.OK && m.Kind != kind {
		t.Errorf("%s of kind %d: the body %v is %#v, %d, want %d", what, kind, body, m, got, code)
	}
}

// cat puts bytes one behind the other.
func cat(parts ...[]byte) []byte { return slices.Concat(parts...) }

// P16.1: the kinds, and Name.

func TestKinds(t *testing.T) {
	names := "join forward neighbor accept refuse part shuffle swap beat gossip have graft prune rumors echo check match peel pile"
	for i, kind := range []int{
		wire.Join, wire.Forward, wire.Neighbor, wire.Accept, wire.Refuse, wire.Part, wire.Shuffle, wire.Swap, wire.Beat, wire.Gossip,
		wire.Have, wire.Graft, wire.Prune, wire.Rumors, wire.Echo, wire.Check, wire.Match, wire.Peel, wire.Pile,
	} {
		if kind != i+1 || wire.Name(kind) != strings.Fields(names)[i] {
			t.Error(i+1, kind, wire.Name(kind))
		}
	}
	for _, kind := range noKinds {
		if name := wire.Name(kind); name != "" {
			t.Error(kind, name)
		}
	}
}

// P16.1: Good and Encode.

func TestFullMessages(t *testing.T) {
	for kind := 1; kind <= 19; kind++ {
		is(t, "a full one", full(kind), api.OK)
	}
}

func TestNoSuchKind(t *testing.T) {
	for _, kind := range noKinds {
		is(t, "an empty one", wire.Message{Kind: kind}, api.ErrArg)
		for _, field := range allFields {
			m := wire.Message{Kind: kind}
			fill(&m, field)
			is(t, "one with "+field, m, api.ErrArg)
		}
		// That there is no such kind is told ahead of what may not be of the fields.
		is(t, "one that may not be", wire.Message{Kind: kind, Peer: 12, Hops: -1, Number: -1, Peers: make([]int, 9), Entries: badEntries}, api.ErrArg)
	}
}

// Each kind alone has what is empty where it has to have an element.
func TestEmptyMessages(t *testing.T) {
	for kind := 1; kind <= 19; kind++ {
		code := api.OK
		if kind == wire.Gossip || kind == wire.Have || kind == wire.Graft || kind == wire.Rumors {
			code = api.ErrForm
		}
		is(t, "an empty one", wire.Message{Kind: kind}, code)
	}
}

// others gives, for each field, messages that have nothing but that one, as little of it as there may be.
func others(field string) []wire.Message {
	var l []wire.Message
	switch field {
	case "Peer":
		l = []wire.Message{{Peer: 1}, {Peer: 11}, {Peer: -1}, {Peer: 12}, {Peer: 256}, {Peer: 1 << 32}, {Peer: math.MinInt}}
	case "Hops":
		l = []wire.Message{{Hops: 1}, {Hops: 8}, {Hops: -1}, {Hops: 9}, {Hops: 256}, {Hops: 1 << 32}, {Hops: math.MinInt}}
	case "High":
		l = []wire.Message{{High: true}}
	case "Peers":
		l = []wire.Message{{Peers: []int{0}}, {Peers: []int{1}}, {Peers: make([]int, 9)}, {Peers: []int{12}}}
	case "Number":
		l = []wire.Message{{Number: 1}, {Number: greatest}, {Number: -1}, {Number: 1 << 32}, {Number: math.MinInt}}
	case "Sum":
		l = []wire.Message{{Sum: 1}, {Sum: 1 << 32}, {Sum: math.MaxUint64}}
	case "Mark":
		l = []wire.Message{{Mark: aMark}, {Mark: api.Mark{Key: "k"}}, {Mark: api.Mark{Act: at(1, 0)}}, {Mark: api.Mark{Act: at(0, 1)}}}
	case "Marks":
		l = []wire.Message{{Marks: []api.Mark{aMark}}, {Marks: []api.Mark{{}}}, {Marks: times(8, aMark)}, {Marks: times(9, aMark)}}
	case "Entries":
		l = []wire.Message{{Entries: []api.Entry{anEntry}}, {Entries: []api.Entry{{}}}, {Entries: times(8, anEntry)}, {Entries: times(9, anEntry)}}
	}
	return l
}

// with gives a message that has one field of another one.
func with(m wire.Message, field string, o wire.Message) wire.Message {
	switch field {
	case "Peer":
		m.Peer = o.Peer
	case "Hops":
		m.Hops = o.Hops
	case "High":
		m.High = o.High
	case "Peers":
		m.Peers = o.Peers
	case "Number":
		m.Number = o.Number
	case "Sum":
		m.Sum = o.Sum
	case "Mark":
		m.Mark = o.Mark
	case "Marks":
		m.Marks = o.Marks
	case "Entries":
		m.Entries = o.Entries
	}
	return m
}

func TestFieldsThatAKindHasNot(t *testing.T) {
	for kind := 1; kind <= 19; kind++ {
		for _, field := range allFields {
			if plainKinds[kind].has(field) {
				continue
			}
			for _, o := range others(field) {
				is(t, field+", alone", with(full(kind), field, o), api.ErrForm)
			}
		}
	}
}

func TestEmptyListsThatAKindHasNot(t *testing.T) {
	for kind := 1; kind <= 19; kind++ {
		m := full(kind)
		m.Peers, m.Marks, m.Entries = append([]int{}, m.Peers...), append([]api.Mark{}, m.Marks...), append([]api.Entry{}, m.Entries...)
		is(t, "empty lists", m, api.OK)
	}
}

// numbers tries numbers of a field: those up to most may be.
func numbers(t *testing.T, field string, most int, set func(m *wire.Message, n int)) {
	t.Helper()
	for _, kind := range having(field) {
		for _, n := range []int{0, 1, most - 1, most} {
			m := full(kind)
			set(&m, n)
			is(t, fmt.Sprint(field, " ", n), m, api.OK)
		}
		for _, n := range []int{-1, -2, most + 1, most + 2, -most, -256, 1 << 32, 1<<32 + 1, -1 << 32, 1 << 40, math.MaxInt, math.MinInt, math.MinInt + 1} {
			m := full(kind)
			set(&m, n)
			is(t, fmt.Sprint(field, " ", n), m, api.ErrForm)
		}
	}
}

func TestPeer(t *testing.T) {
	numbers(t, "Peer", 11, func(m *wire.Message, n int) { m.Peer = n })
}

func TestHops(t *testing.T) {
	numbers(t, "Hops", 8, func(m *wire.Message, n int) { m.Hops = n })
}

func TestNumber(t *testing.T) {
	numbers(t, "Number", greatest, func(m *wire.Message, n int) { m.Number = n })
}

func TestPeers(t *testing.T) {
	for place := range 8 {
		numbers(t, "Peers", 11, func(m *wire.Message, n int) {
			m.Peers = times(8, 5)
			m.Peers[place] = n
		})
	}
}

func TestHowManyPeers(t *testing.T) {
	for _, kind := range having("Peers") {
		for n := range 12 {
			code := api.OK
			if n > 8 {
				code = api.ErrForm
			}
			m := full(kind)
			m.Peers = make([]int, n)
			is(t, fmt.Sprint(n, " Peers"), m, code)
		}
	}
}

func TestHigh(t *testing.T) {
	is(t, "High", wire.Message{Kind: wire.Neighbor, High: true}, api.OK)
	is(t, "not High", wire.Message{Kind: wire.Neighbor}, api.OK)
}

func TestSum(t *testing.T) {
	for _, kind := range having("Sum") {
		for _, n := range []uint64{0, 1, 255, 256, 1 << 32, 1 << 63, math.MaxInt64, math.MaxUint64} {
			m := full(kind)
			m.Sum = n
			is(t, fmt.Sprint("Sum ", n), m, api.OK)
		}
	}
}

// The zero mark may be where there is one Mark, and in no list of them.
func TestMark(t *testing.T) {
	for _, kind := range having("Mark") {
		m := full(kind)
		for _, k := range append(slices.Clone(goodMarks), api.Mark{}) {
			m.Mark = k
			is(t, "Mark", m, api.OK)
		}
		for _, k := range badMarks {
			m.Mark = k
			is(t, "Mark", m, api.ErrForm)
		}
	}
}

// howMany gives how many Marks, or Entries, a kind has.
func howMany(kind int) (int, int) {
	switch kind {
	case wire.Gossip, wire.Graft:
		return 1, 1
	case wire.Have, wire.Rumors:
		return 1, 8
	}
	return 0, 8
}

func TestHowManyMarksAndEntries(t *testing.T) {
	for kind := 1; kind <= 19; kind++ {
		least, most := howMany(kind)
		for n := range 12 {
			code := api.OK
			if n < least || n > most {
				code = api.ErrForm
			}
			if plainKinds[kind].has("Marks") {
				m := full(kind)
				m.Marks = times(n, aMark)
				is(t, fmt.Sprint(n, " Marks"), m, code)
			}
			if plainKinds[kind].has("Entries") {
				m := full(kind)
				m.Entries = times(n, anEntry)
				is(t, fmt.Sprint(n, " Entries"), m, code)
			}
		}
	}
}

// Echo has both, each up to 8, whatever the other one has.
func TestMarksBesideEntries(t *testing.T) {
	for marks := range 10 {
		for entries := range 10 {
			code := api.OK
			if marks > 8 || entries > 8 {
				code = api.ErrForm
			}
			is(t, "echo", wire.Message{Kind: wire.Echo, Marks: times(marks, aMark), Entries: times(entries, anEntry)}, code)
		}
	}
}

func TestMarks(t *testing.T) {
	for _, kind := range having("Marks") {
		_, most := howMany(kind)
		for place := range most {
			m := full(kind)
			for _, k := range goodMarks {
				m.Marks = times(most, aMark)
				m.Marks[place] = k
				is(t, fmt.Sprint("a mark at ", place), m, api.OK)
			}
			for _, k := range append(slices.Clone(badMarks), api.Mark{}) {
				m.Marks = times(most, aMark)
				m.Marks[place] = k
				is(t, fmt.Sprint("a mark that may not be, at ", place), m, api.ErrForm)
			}
		}
	}
}

func TestEntries(t *testing.T) {
	for _, kind := range having("Entries") {
		_, most := howMany(kind)
		for place := range most {
			m := full(kind)
			for _, e := range goodEntries {
				m.Entries = times(most, anEntry)
				m.Entries[place] = e
				is(t, fmt.Sprint("an entry at ", place), m, api.OK)
			}
			for _, e := range badEntries {
				m.Entries = times(most, anEntry)
				m.Entries[place] = e
				is(t, fmt.Sprint("an entry that may not be, at ", place), m, api.ErrForm)
			}
		}
	}
}

// All fields of one kind, each as much as there may be.
func TestGreatestMessages(t *testing.T) {
	mark, e := api.Mark{Act: at(greatest, 11), Key: text(16)}, live(text(16), text(32), at(greatest, 11))
	longest := 0
	for kind := 1; kind <= 19; kind++ {
		k := plainKinds[kind]
		o := wire.Message{
			Peer: 11, Hops: 8, High: true, Peers: times(8, 11), Number: greatest, Sum: math.MaxUint64,
			Mark: mark, Marks: times(k.most, mark), Entries: times(k.most, e),
		}
		m := wire.Message{Kind: kind}
		for _, field := range strings.Fields(k.fields) {
			m = with(m, field, o)
		}
		is(t, "the greatest one", m, api.OK)
		body, _ := wire.Encode(m)
		longest = max(longest, len(body))
	}
	if longest != 1+8*22+1+8*67 || longest > 720 {
		t.Error("the longest body has ", longest)
	}
}

// P16.1: the bodies.

func TestExample(t *testing.T) {
	body, code := wire.Encode(wire.Message{Kind: wire.Swap, Peers: []int{3, 7}})
	if code != api.OK || !bytes.Equal(body, []byte{2, 3, 7}) {
		t.Error(body, code)
	}
	m, code := wire.Decode(wire.Swap, []byte{2, 3, 7})
	if code != api.OK || !plainSame(m, wire.Message{Kind: wire.Swap, Peers: []int{3, 7}}) {
		t.Error(m, code)
	}
}

func TestBodies(t *testing.T) {
	mark := []byte{2, 1, 0, 0, 3, 1, 'k'}
	long := []byte{0, 1, 0, 0, 11, 2, 'a', 'b'}
	e := []byte{1, 'k', 0, 1, 'v', 1, 0, 0, 0, 2, 1, 0, 0, 0, 2, 0, 0, 0, 0, 0, 0}
	number, sum := []byte{1, 2, 3, 4}, []byte{1, 2, 3, 4, 5, 6, 7, 8}
	for kind, want := range map[int][]byte{
		wire.Join: nil, wire.Accept: nil, wire.Refuse: nil, wire.Part: nil, wire.Beat: nil, wire.Prune: nil,
		wire.Forward: {7, 3}, wire.Neighbor: {1}, wire.Shuffle: {7, 3, 3, 3, 11, 0}, wire.Swap: {3, 3, 11, 0},
		wire.Gossip: cat([]byte{1}, e), wire.Rumors: cat([]byte{1}, e), wire.Have: cat([]byte{1}, mark), wire.Graft: cat([]byte{1}, mark),
		wire.Echo:  cat([]byte{1}, mark, []byte{1}, e),
		wire.Check: cat(number, sum, []byte{1}, e), wire.Match: cat(number, sum, []byte{1}, e),
		wire.Peel: cat(number, long, []byte{1}, e), wire.Pile: cat(number, sum, long, []byte{1}, e),
	} {
		body, code := wire.Encode(full(kind))
		if code != api.OK || !bytes.Equal(body, want) {
			t.Errorf("kind %d: %v, %d, want %v", kind, body, code, want)
		}
		m, code := wire.Decode(kind, want)
		if code != api.OK || !plainSame(m, full(kind)) {
			t.Errorf("kind %d: %#v, %d", kind, m, code)
		}
	}
}

func TestBodiesOfEmptyMessages(t *testing.T) {
	for kind, want := range map[int][]byte{
		wire.Forward: {0, 0}, wire.Neighbor: {0}, wire.Shuffle: {0, 0, 0}, wire.Swap: {0}, wire.Echo: {0, 0},
		wire.Check: make([]byte, 13), wire.Match: make([]byte, 13), wire.Peel: make([]byte, 11), wire.Pile: make([]byte, 19),
	} {
		body, code := wire.Encode(wire.Message{Kind: kind})
		if code != api.OK || !bytes.Equal(body, want) {
			t.Errorf("kind %d: %v, %d, want %v", kind, body, code, want)
		}
	}
}

// Elements stand in the order in which the list has them, and one may stand there twice.
func TestOrderOfLists(t *testing.T) {
	for _, peers := range [][]int{{3, 7}, {7, 3}, {7, 7}, {0, 11, 0, 11, 5, 5, 1, 0}} {
		want := []byte{byte(len(peers))}
		for _, n := range peers {
			want = append(want, byte(n))
		}
		if body, _ := wire.Encode(wire.Message{Kind: wire.Swap, Peers: peers}); !bytes.Equal(body, want) {
			t.Error(peers, body)
		}
	}
	back := slices.Clone(goodMarks)
	slices.Reverse(back)
	is(t, "marks", wire.Message{Kind: wire.Have, Marks: goodMarks}, api.OK)
	is(t, "marks", wire.Message{Kind: wire.Have, Marks: back}, api.OK)
	last := slices.Clone(goodEntries)
	slices.Reverse(last)
	is(t, "entries", wire.Message{Kind: wire.Rumors, Entries: goodEntries}, api.OK)
	is(t, "entries", wire.Message{Kind: wire.Rumors, Entries: last}, api.OK)
}

// P16.1: Same.

// same fails the test where two messages aren't told to be the same, or to be unlike, whichever is the first.
func same(t *testing.T, what string, a, b wire.Message, want bool) {
	t.Helper()
	if wire.Same(a, b) != want || wire.Same(b, a) != want {
		t.Errorf("%s: Same isn't %v: %#v, %#v", what, want, a, b)
	}
}

// everything gives a message, that may not be, with all fields.
func everything() wire.Message {
	m := wire.Message{Kind: wire.Pile}
	for _, field := range allFields {
		fill(&m, field)
	}
	m.Marks = slices.Clone(goodMarks)
	m.Entries = slices.Clone(goodEntries)
	return m
}

func TestSame(t *testing.T) {
	same(t, "zero", wire.Message{}, wire.Message{}, true)
	same(t, "everything", everything(), everything(), true)
	for kind := 1; kind <= 19; kind++ {
		for other := 1; other <= 19; other++ {
			same(t, "full", full(kind), full(other), kind == other)
			same(t, "empty", wire.Message{Kind: kind}, wire.Message{Kind: other}, kind == other)
		}
	}
	// Also such that may not be are held against each other.
	odd := wire.Message{Kind: -5, Peer: -1, Hops: math.MinInt, Number: math.MaxInt, Peers: make([]int, 20), Marks: badMarks, Entries: badEntries}
	same(t, "odd", odd, copied(odd), true)
	same(t, "odd", odd, everything(), false)
}

func TestSameOfOneOtherField(t *testing.T) {
	for _, field := range allFields {
		for _, m := range []wire.Message{{}, full(wire.Join), everything()} {
			for _, o := range others(field) {
				want := plainSame(m, with(m, field, o))
				same(t, field, m, with(m, field, o), want)
			}
			same(t, "no "+field, m, with(m, field, wire.Message{}), empty(m, field))
		}
	}
	for _, kind := range append(slices.Clone(noKinds), 1, 18) {
		m := everything()
		m.Kind = kind
		same(t, "Kind", m, everything(), false)
	}
}

func TestSameOfMarksAndEntriesFieldByField(t *testing.T) {
	marks := []api.Mark{{Act: at(259, 3), Key: "k"}, {Act: at(258, 4), Key: "k"}, {Act: at(258, 3), Key: "l"}, {Act: at(258, 3), Key: "k\x00"}}
	for _, k := range marks {
		same(t, "Mark", wire.Message{Mark: aMark}, wire.Message{Mark: k}, false)
		same(t, "Marks", wire.Message{Marks: []api.Mark{aMark}}, wire.Message{Marks: []api.Mark{k}}, false)
	}
	e := dead("k", at(7, 3), at(7, 4), 2048, 9)
	for i, change := range []func(e *api.Entry){
		func(e *api.Entry) { e.Key = "l" }, func(e *api.Entry) { e.Value = "v" }, func(e *api.Entry) { e.Dead = false },
		func(e *api.Entry) { e.Stamp.Counter++ }, func(e *api.Entry) { e.Stamp.Site++ }, func(e *api.Entry) { e.Act.Counter++ },
		func(e *api.Entry) { e.Act.Site++ }, func(e *api.Entry) { e.Keepers++ }, func(e *api.Entry) { e.Age++ },
	} {
		o := e
		change(&o)
		same(t, fmt.Sprint("Entries ", i), wire.Message{Entries: []api.Entry{e}}, wire.Message{Entries: []api.Entry{o}}, false)
	}
}

func TestSameOfLists(t *testing.T) {
	for _, n := range []int{1, 2, 8, 9, 40} {
		for place := range n {
			a := wire.Message{Peers: times(n, 5), Marks: times(n, aMark), Entries: times(n, anEntry)}
			same(t, "lists", a, copied(a), true)
			p, k, e := copied(a), copied(a), copied(a)
			p.Peers[place], k.Marks[place].Key, e.Entries[place].Age = 6, "l", 1
			same(t, "Peers", a, p, false)
			same(t, "Marks", a, k, false)
			same(t, "Entries", a, e, false)
			p, k, e = copied(a), copied(a), copied(a)
			p.Peers, k.Marks, e.Entries = p.Peers[:place], k.Marks[:place], e.Entries[:place]
			same(t, "fewer Peers", a, p, false)
			same(t, "fewer Marks", a, k, false)
			same(t, "fewer Entries", a, e, false)
		}
	}
	same(t, "the order of Peers", wire.Message{Peers: []int{1, 2}}, wire.Message{Peers: []int{2, 1}}, false)
	same(t, "the order of Marks", wire.Message{Marks: goodMarks[:2]}, wire.Message{Marks: []api.Mark{goodMarks[1], goodMarks[0]}}, false)
	same(t, "the order of Entries", wire.Message{Entries: goodEntries[:2]}, wire.Message{Entries: []api.Entry{goodEntries[1], goodEntries[0]}}, false)
}

func TestSameOfNilAndEmptyLists(t *testing.T) {
	none := wire.Message{Kind: wire.Echo}
	for i, m := range []wire.Message{
		{Kind: wire.Echo, Peers: []int{}}, {Kind: wire.Echo, Marks: []api.Mark{}}, {Kind: wire.Echo, Entries: []api.Entry{}},
		{Kind: wire.Echo, Peers: make([]int, 0, 8), Marks: make([]api.Mark, 0, 8), Entries: make([]api.Entry, 0, 8)},
	} {
		same(t, fmt.Sprint("nil and empty ", i), none, m, true)
		is(t, "an empty list", m, api.OK)
	}
}

// P16.2.

func TestDecodeNoSuchKind(t *testing.T) {
	for _, kind := range noKinds {
		for _, body := range [][]byte{nil, {}, {0}, {2}, {9}, {2, 3, 7}, make([]byte, 1000)} {
			reads(t, "no such kind", kind, body, api.ErrArg)
		}
	}
}

func TestBodiesCutOff(t *testing.T) {
	for kind := 1; kind <= 19; kind++ {
		m := full(kind)
		if _, most := howMany(kind); most == 8 {
			m.Marks, m.Entries = times(2*min(1, len(m.Marks)), aMark), append(m.Entries, m.Entries...)
			if len(m.Entries) > 1 {
				m.Entries[1] = goodEntries[4]
			}
		}
		body, code := wire.Encode(m)
		if code != api.OK {
			t.Fatal(kind, code)
		}
		for n := range body {
			reads(t, fmt.Sprint("cut off at ", n), kind, body[:n], api.ErrShort)
		}
		for _, more := range [][]byte{{0}, {1}, {255}, {0, 0}, make([]byte, 100)} {
			reads(t, "with bytes behind it", kind, cat(body, more), api.ErrForm)
		}
		reads(t, "as it is", kind, body, api.OK)
	}
}

// More than 8 of a list is ErrForm, whatever comes behind, or doesn't.
func TestMoreThanMaxListIsToldAtOnce(t *testing.T) {
	sum := make([]byte, 8)
	for _, c := range []struct {
		kind  int
		ahead []byte
	}{
		{wire.Swap, nil}, {wire.Shuffle, []byte{1, 2}}, {wire.Gossip, nil}, {wire.Have, nil}, {wire.Graft, nil}, {wire.Rumors, nil},
		{wire.Echo, nil}, {wire.Echo, []byte{0}}, {wire.Echo, cat([]byte{1}, markBytes(aMark))},
		{wire.Check, cat([]byte{1, 0, 0, 0}, sum)}, {wire.Match, cat([]byte{1, 0, 0, 0}, sum)},
		{wire.Peel, cat([]byte{1, 0, 0, 0}, markBytes(aMark))}, {wire.Pile, cat([]byte{1, 0, 0, 0}, sum, make([]byte, 6))},
	} {
		for _, many := range []byte{9, 10, 16, 128, 255} {
			for _, behind := range []int{0, 1, 8, 9, 10, 255, 256, 1000} {
				reads(t, fmt.Sprint(many, " of a list"), c.kind, cat(c.ahead, []byte{many}, times(behind, byte(1))), api.ErrForm)
			}
		}
		reads(t, "8 of a list, that aren't there", c.kind, cat(c.ahead, []byte{8}), api.ErrShort)
		// Bytes that end ahead of how many there are are told first.
		if len(c.ahead) > 0 {
			reads(t, "cut off ahead of a list", c.kind, c.ahead[:len(c.ahead)-1], api.ErrShort)
		}
	}
}

// The first of two lists may be wrong though the second one has too many, and it is told first.
func TestWhatIsToldOfTwoLists(t *testing.T) {
	reads(t, "a mark cut off", wire.Echo, []byte{1, 2, 1, 0}, api.ErrShort)
	reads(t, "a mark with a long key", wire.Echo, cat([]byte{1, 2, 1, 0, 0, 3, 17}, make([]byte, 17), []byte{0}), api.ErrForm)
	reads(t, "a mark that may not be, and too many entries", wire.Echo, cat([]byte{1}, markBytes(api.Mark{Key: "k"}), []byte{9}), api.ErrForm)
	reads(t, "a mark that may not be, and an entry cut off", wire.Echo, cat([]byte{1}, markBytes(api.Mark{Key: "k"}), []byte{1}, entryBytes(anEntry)[:9]), api.ErrShort)
	reads(t, "a mark that may not be, and no entries", wire.Echo, cat([]byte{1}, markBytes(api.Mark{Key: "k"})), api.ErrShort)
	reads(t, "a mark that may not be", wire.Echo, cat([]byte{1}, markBytes(api.Mark{Key: "k"}), []byte{0}), api.ErrForm)
}

func TestFlagThatIsNone(t *testing.T) {
	for b := range 256 {
		code := api.OK
		if b > 1 {
			code = api.ErrForm
		}
		reads(t, "a flag", wire.Neighbor, []byte{byte(b)}, code)
	}
	reads(t, "no flag", wire.Neighbor, nil, api.ErrShort)
}

// What may not be, but is taken all the same, is told behind what the reader finds wrong.
func TestReaderIsAheadOfWhatMayNotBe(t *testing.T) {
	bad := markBytes(api.Mark{Act: at(0, 12), Key: "k"})
	sum := make([]byte, 8)
	for _, c := range []struct {
		what string
		kind int
		body []byte
		more []byte
	}{
		{"Peer", wire.Forward, []byte{12}, []byte{0}},
		{"Peer", wire.Forward, []byte{255}, []byte{8}},
		{"Peer", wire.Shuffle, []byte{12, 0, 1}, []byte{3}},
		{"Hops", wire.Shuffle, []byte{0, 9}, []byte{0}},
		{"Hops", wire.Shuffle, []byte{0, 255, 2, 3}, []byte{3}},
		{"Peers", wire.Swap, []byte{2, 12}, []byte{3}},
		{"Peers", wire.Swap, []byte{8, 1, 2, 3, 4, 5, 6, 255}, []byte{3}},
		{"Marks", wire.Have, cat([]byte{2}, bad), markBytes(aMark)},
		{"Marks", wire.Have, cat([]byte{2}, make([]byte, 6)), markBytes(aMark)},
		{"how many Marks", wire.Graft, cat([]byte{2}, markBytes(aMark)), markBytes(aMark)},
		{"how many Entries", wire.Gossip, cat([]byte{8}, entryBytes(anEntry)), cat(times(7, entryBytes(anEntry))...)},
		{"Mark", wire.Peel, cat([]byte{1, 0, 0, 0}, bad), []byte{0}},
		{"Mark", wire.Peel, cat([]byte{1, 0, 0, 0, 1}, make([]byte, 5)), []byte{0}},
		{"Mark", wire.Pile, cat([]byte{1, 0, 0, 0}, sum, bad, []byte{1}), entryBytes(anEntry)},
	} {
		reads(t, c.what+" that may not be, then no more", c.kind, c.body, api.ErrShort)
		reads(t, c.what+" that may not be", c.kind, cat(c.body, c.more), api.ErrForm)
		reads(t, c.what+" that may not be, and more", c.kind, cat(c.body, c.more, []byte{0}), api.ErrForm)
	}
}

// That an entry may not be is the reader's error: it is told ahead of bytes that end too early behind it, and
// behind of those that do so in it, or ahead of it.
func TestEntryThatMayNotBe(t *testing.T) {
	for _, e := range badEntries {
		if e.Stamp.Counter < 0 || e.Stamp.Counter > greatest || e.Stamp.Site < 0 || e.Age < 0 {
			continue // it has no bytes
		}
		b := entryBytes(e)
		long := len(e.Key) > 16 || len(e.Value) > 32
		for _, c := range []struct {
			kind  int
			ahead []byte
		}{
			{wire.Rumors, nil}, {wire.Echo, []byte{0}}, {wire.Check, make([]byte, 12)}, {wire.Peel, make([]byte, 10)}, {wire.Pile, make([]byte, 18)},
		} {
			reads(t, "the first of two, the other one cut off", c.kind, cat(c.ahead, []byte{2}, b, entryBytes(anEntry)[:5]), api.ErrForm)
			reads(t, "the first of two, without the other one", c.kind, cat(c.ahead, []byte{2}, b), api.ErrForm)
			reads(t, "the second of three", c.kind, cat(c.ahead, []byte{3}, entryBytes(anEntry), b), api.ErrForm)
			reads(t, "the only one", c.kind, cat(c.ahead, []byte{1}, b), api.ErrForm)
			if !long {
				reads(t, "cut off itself", c.kind, cat(c.ahead, []byte{1}, b[:len(b)-1]), api.ErrShort)
			}
		}
	}
	// A mark ahead of it that may not be isn't the reader's error: either way it is ErrForm.
	reads(t, "behind a mark that may not be", wire.Peel, cat(make([]byte, 4), markBytes(api.Mark{Key: "k"}), []byte{2}, entryBytes(api.Entry{Key: "k"})), api.ErrForm)
}

// A mark's key is a text of at most 16 bytes: more of them is the reader's error.
func TestKeysOfMarks(t *testing.T) {
	act := []byte{2, 1, 0, 0, 3}
	for n := range 256 {
		key := cat([]byte{byte(n)}, times(n, byte('x')))
		code := api.ErrForm
		if n >= 1 && n <= 16 {
			code = api.OK
		}
		reads(t, fmt.Sprint("a key of ", n), wire.Graft, cat([]byte{1}, act, key), code)
		reads(t, fmt.Sprint("a key of ", n), wire.Have, cat([]byte{2}, act, key, act, key), code)
		reads(t, fmt.Sprint("a key of ", n), wire.Peel, cat([]byte{1, 0, 0, 0}, act, key, []byte{0}), code)
		if n > 16 {
			reads(t, fmt.Sprint("a key of ", n, ", cut off"), wire.Graft, cat([]byte{1}, act, key[:len(key)-1]), api.ErrForm)
			reads(t, fmt.Sprint("a key of ", n, ", that isn't there"), wire.Peel, cat([]byte{1, 0, 0, 0}, act, key[:1]), api.ErrForm)
		} else if n > 0 {
			reads(t, fmt.Sprint("a key of ", n, ", cut off"), wire.Graft, cat([]byte{1}, act, key[:len(key)-1]), api.ErrShort)
		}
	}
}

func TestCountersAndSitesOfMarks(t *testing.T) {
	for _, c := range []struct {
		act  []byte
		code api.Errno
	}{
		{[]byte{0, 0, 0, 0, 0}, api.ErrForm}, {[]byte{0, 0, 0, 0, 3}, api.ErrForm}, {[]byte{1, 0, 0, 0, 0}, api.OK}, {[]byte{0, 0, 0, 1, 0}, api.OK},
		{[]byte{255, 255, 255, 255, 11}, api.OK}, {[]byte{255, 255, 255, 255, 12}, api.ErrForm}, {[]byte{1, 0, 0, 0, 255}, api.ErrForm},
	} {
		key := []byte{1, 'k'}
		reads(t, "marks", wire.Graft, cat([]byte{1}, c.act, key), c.code)
		reads(t, "marks", wire.Have, cat([]byte{2}, markBytes(aMark), c.act, key), c.code)
		reads(t, "a mark", wire.Peel, cat([]byte{1, 0, 0, 0}, c.act, key, []byte{0}), c.code)
		reads(t, "a mark", wire.Pile, cat(make([]byte, 12), c.act, key, []byte{0}), c.code)
	}
	reads(t, "the zero mark", wire.Peel, make([]byte, 11), api.OK)
	reads(t, "the zero mark", wire.Pile, make([]byte, 19), api.OK)
	reads(t, "the zero mark in a list", wire.Have, cat([]byte{1}, make([]byte, 6)), api.ErrForm)
	reads(t, "the zero mark in a list", wire.Graft, cat([]byte{1}, make([]byte, 6)), api.ErrForm)
	reads(t, "the zero mark in a list", wire.Echo, cat([]byte{1}, make([]byte, 6), []byte{0}), api.ErrForm)
	reads(t, "no key", wire.Peel, []byte{1, 0, 0, 0, 1, 0, 0, 0, 0, 0, 0}, api.ErrForm)
}

func TestHowManyThereAreInBodies(t *testing.T) {
	for kind := 1; kind <= 19; kind++ {
		k := plainKinds[kind]
		for n := range 9 {
			code := api.OK
			if least, most := howMany(kind); n < least || n > most {
				code = api.ErrForm
			}
			if m := full(kind); k.has("Marks") {
				m.Marks = times(n, aMark)
				reads(t, fmt.Sprint(n, " Marks"), kind, plainBytes(m), code)
			}
			if m := full(kind); k.has("Entries") {
				m.Entries = times(n, anEntry)
				reads(t, fmt.Sprint(n, " Entries"), kind, plainBytes(m), code)
			}
			if m := full(kind); k.has("Peers") {
				m.Peers = times(n, 11)
				reads(t, fmt.Sprint(n, " Peers"), kind, plainBytes(m), api.OK)
			}
		}
	}
}

func TestKindsWithoutFieldsHaveNoBytes(t *testing.T) {
	for _, kind := range []int{wire.Join, wire.Accept, wire.Refuse, wire.Part, wire.Beat, wire.Prune} {
		reads(t, "no bytes", kind, nil, api.OK)
		reads(t, "no bytes", kind, []byte{}, api.OK)
		for b := range 256 {
			reads(t, "a byte", kind, []byte{byte(b)}, api.ErrForm)
		}
	}
}
