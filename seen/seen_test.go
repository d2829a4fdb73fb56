package seen_test

import (
	"fmt"
	"math"
	"slices"
	"testing"

	"quidnunc/api"
	"quidnunc/seen"
)

// P18.1: New.

func TestMaxRoom(t *testing.T) {
	const room int = seen.MaxRoom
	if room != 1024 {
		t.Fatal(room)
	}
}

func TestNewWithNoSuchRoom(t *testing.T) {
	for _, n := range []int{
		math.MinInt, math.MinInt + 1, math.MinInt + 512, -1 << 32, -1<<32 + 1, -1 << 31, -1025, -1024, -1023, -2, -1, 0,
		1025, 1026, 2048, 1 << 16, 1<<16 + 1, 1<<31 - 1, 1 << 31, 1<<32 - 1, 1 << 32, 1<<32 + 1, 1<<32 + 1024, 1 << 62,
		math.MaxInt - 1, math.MaxInt,
	} {
		if s, e := seen.New(n); e != api.ErrArg || s != nil {
			t.Errorf("New(%d): %v, %d", n, s, e)
		}
	}
}

func TestAListWithoutMarks(t *testing.T) {
	for room := 1; room <= seen.MaxRoom; room++ {
		k := with(t, room)
		tells(t, fmt.Sprint("room ", room), k.s)
		for _, m := range []api.Mark{zero, a, at("", 0, 1), at("", 1, 0), at("\x00", 0, 0)} {
			if k.s.Has(m) {
				t.Fatal(room, told(m))
			}
		}
	}
	k := with(t, 3)
	k.holds(t, "asked for all", unlike()...)
	tells(t, "asked for all", k.s)
}

// P18.1: Add, Has, Len, All.

// story is a list's whole life: what comes, what Add answers ("+" true, "-" false), and what there is then.
type story struct {
	room  int
	comes []api.Mark
	says  string
	are   []api.Mark
	not   []api.Mark
}

func TestStories(t *testing.T) {
	for i, k := range []story{
		// they come
		{3, []api.Mark{a}, "+", []api.Mark{a}, []api.Mark{b, zero}},
		{3, []api.Mark{a, b}, "++", []api.Mark{a, b}, []api.Mark{c, zero}},
		{3, []api.Mark{b, a}, "++", []api.Mark{b, a}, []api.Mark{c, zero}}, // as they come, not as they rise
		{3, []api.Mark{c, b, a}, "+++", []api.Mark{c, b, a}, []api.Mark{d}},
		// one more: the eldest one leaves
		{3, []api.Mark{c, b, a, d}, "++++", []api.Mark{b, a, d}, []api.Mark{c}},
		{3, []api.Mark{a, b, c, d, f}, "+++++", []api.Mark{c, d, f}, []api.Mark{a, b}},
		// they come again while they are there: nothing
		{3, []api.Mark{a, a}, "+-", []api.Mark{a}, []api.Mark{b}},
		{3, []api.Mark{a, b, a}, "++-", []api.Mark{a, b}, []api.Mark{c}},
		{3, []api.Mark{a, b, c, a, b, c}, "+++---", []api.Mark{a, b, c}, []api.Mark{d}},
		{3, []api.Mark{a, b, c, a, d}, "+++-+", []api.Mark{b, c, d}, []api.Mark{a}}, // a is the eldest still
		{3, []api.Mark{a, b, a, c, d}, "++-++", []api.Mark{b, c, d}, []api.Mark{a}},
		{3, []api.Mark{a, b, c, b, d, b, f}, "+++-+-+", []api.Mark{c, d, f}, []api.Mark{a, b}},
		// they come again once they have left
		{3, []api.Mark{a, b, c, d, a}, "+++++", []api.Mark{c, d, a}, []api.Mark{b}},
		{3, []api.Mark{a, b, c, d, a, a}, "+++++-", []api.Mark{c, d, a}, []api.Mark{b}},
		{3, []api.Mark{a, b, c, d, a, b, c, d}, "++++++++", []api.Mark{b, c, d}, []api.Mark{a}},
		{3, []api.Mark{a, b, c, d, a, f, b, c}, "++++++++", []api.Mark{f, b, c}, []api.Mark{a, d}},
		// room for one
		{1, []api.Mark{a}, "+", []api.Mark{a}, []api.Mark{b}},
		{1, []api.Mark{a, a}, "+-", []api.Mark{a}, []api.Mark{b}},
		{1, []api.Mark{a, b}, "++", []api.Mark{b}, []api.Mark{a}},
		{1, []api.Mark{a, b, a, b, b, a}, "++++-+", []api.Mark{a}, []api.Mark{b}},
		{1, []api.Mark{zero, a, zero}, "+++", []api.Mark{zero}, []api.Mark{a}},
		// room for two
		{2, []api.Mark{a, b}, "++", []api.Mark{a, b}, []api.Mark{c}},
		{2, []api.Mark{a, b, c}, "+++", []api.Mark{b, c}, []api.Mark{a}},
		{2, []api.Mark{a, b, b, c}, "++-+", []api.Mark{b, c}, []api.Mark{a}},
		{2, []api.Mark{a, b, c, a, b}, "+++++", []api.Mark{a, b}, []api.Mark{c}},
		{2, []api.Mark{a, b, c, c, b, d}, "+++--+", []api.Mark{c, d}, []api.Mark{a, b}},
		// the zero mark is one like others
		{2, []api.Mark{zero}, "+", []api.Mark{zero}, []api.Mark{a}},
		{2, []api.Mark{zero, zero}, "+-", []api.Mark{zero}, []api.Mark{a}},
		{2, []api.Mark{a, zero, b}, "+++", []api.Mark{zero, b}, []api.Mark{a}},
		{2, []api.Mark{zero, a, b}, "+++", []api.Mark{a, b}, []api.Mark{zero}},
		{2, []api.Mark{zero, a, b, zero}, "++++", []api.Mark{b, zero}, []api.Mark{a}},
		// those that are unlike in one thing alone are others
		{9, []api.Mark{a, at("a", 2, 0), at("a", 1, 1), at("b", 1, 0)}, "++++", []api.Mark{a, at("a", 2, 0), at("a", 1, 1), b}, []api.Mark{at("a", 2, 1), at("b", 2, 0), at("b", 1, 1)}},
		{1, []api.Mark{a, at("a", 2, 0)}, "++", []api.Mark{at("a", 2, 0)}, []api.Mark{a}},   // counters
		{1, []api.Mark{a, at("a", 1, 1)}, "++", []api.Mark{at("a", 1, 1)}, []api.Mark{a}},   // sites
		{1, []api.Mark{a, at("aa", 1, 0)}, "++", []api.Mark{at("aa", 1, 0)}, []api.Mark{a}}, // keys
		{2, []api.Mark{at("a", 2, 1), at("a", 1, 2), at("a", 2, 1)}, "++-", []api.Mark{at("a", 2, 1), at("a", 1, 2)}, []api.Mark{at("a", 1, 1), at("a", 2, 2)}},
		{2, []api.Mark{at("1", 1, 11), at("1", 11, 1), at("11", 1, 1)}, "+++", []api.Mark{at("1", 11, 1), at("11", 1, 1)}, []api.Mark{at("1", 1, 11)}},
	} {
		k.holds(t, fmt.Sprint("story ", i))
	}
}

func (k story) holds(t *testing.T, what string) {
	t.Helper()
	s, e := seen.New(k.room)
	if e != api.OK {
		t.Fatal(what, e)
	}
	says := ""
	for _, m := range k.comes {
		if s.Add(m) {
			says += "+"
		} else {
			says += "-"
		}
	}
	if says != k.says {
		t.Fatalf("%s: %s, want %s", what, says, k.says)
	}
	tells(t, what, s, k.are...)
	for _, m := range k.not {
		if s.Has(m) {
			t.Fatalf("%s: Has of %s: true", what, told(m))
		}
	}
}

// The chapter's example 1.
func TestExample(t *testing.T) {
	story{2, []api.Mark{a, b, a, c}, "++-+", []api.Mark{b, c}, []api.Mark{a}}.holds(t, "example 1")
}

// Each room that there may be: one mark less, as many, and one more; then as many others as it takes.
func TestEachRoom(t *testing.T) {
	for room := 1; room <= seen.MaxRoom; room++ {
		l := row(0, 2*room+1)
		k := with(t, room, l[:room-1]...)
		k.holds(t, "one less", l[room-1])
		k.adds(t, "as many", l[room-1])
		tells(t, fmt.Sprint("as many: ", room), k.s, l[:room]...)
		k.adds(t, "again", l[:room]...)
		tells(t, fmt.Sprint("again: ", room), k.s, l[:room]...)
		k.adds(t, "one more", l[room])
		tells(t, fmt.Sprint("one more: ", room), k.s, l[1:room+1]...)
		k.holds(t, "one more", l[0])
		k.adds(t, "all others", l[room+1:]...)
		tells(t, fmt.Sprint("all others: ", room), k.s, l[room+1:]...)
		k.holds(t, "all others", l[:room+1]...)
	}
}

// The greatest list, of which each mark leaves in its turn, and comes again.
func TestTheGreatestList(t *testing.T) {
	const room = seen.MaxRoom
	l := row(0, 3*room)
	k := with(t, room, l[:room]...)
	for i := room; i < len(l); i++ {
		k.adds(t, "the next one", l[i], l[i], l[i-1], l[i-room+1])
		k.holds(t, fmt.Sprint("mark ", i), l[i-room], l[i-room+1])
	}
	k.adds(t, "they come again", l[:room+5]...)
	k.holds(t, "they come again", l...)
}

// Any two marks that are unlike are two, in whatever they are unlike.
func TestAnyTwoMarks(t *testing.T) {
	l := unlike()
	for i, m := range l {
		k := with(t, 1, m)
		for o, other := range l {
			if k.s.Has(other) != (i == o) {
				t.Fatal("Has: ", told(m, other))
			}
		}
	}
	for i := range 120 { // each with some that are next to it
		for _, other := range l[i+1 : i+40] {
			k := with(t, 2, l[i], other, l[i], other)
			tells(t, "two", k.s, l[i], other)
			k.adds(t, "one more", at("one more", 7, 7))
			tells(t, "one more", k.s, other, at("one more", 7, 7))
		}
	}
}

func TestAllUnlikeMarksAtOnce(t *testing.T) {
	l := unlike()
	k := with(t, len(l), l...)
	tells(t, "all", k.s, l...)
	slices.Reverse(l)
	k.adds(t, "again", l...)
	k.holds(t, "again")
	k = with(t, len(l)-1, l...)
	tells(t, "all but one", k.s, l[1:]...)
	k.holds(t, "all but one", l[0])
}

// A mark's key is its bytes, wherever they come from.
func TestAKeyIsItsBytes(t *testing.T) {
	bytes := []byte("key")
	k := with(t, 2, at(string(bytes), 5, 1))
	clear(bytes)
	k.adds(t, "the same bytes", at("k"+string([]byte{'e', 'y'}), 5, 1))
	tells(t, "the same bytes", k.s, at("key", 5, 1))
}
