package overlay_test

import (
	"fmt"
	"slices"
	"strconv"
	"strings"
	"testing"

	"quidnunc/api"
	"quidnunc/dice"
	"quidnunc/overlay"
	"quidnunc/setup"
	"quidnunc/wire"
)

// config gives a configuration in which there are a few neighbours, and a few others.
func config() setup.Config {
	return setup.Config{
		Nodes: 10, Quota: 1, Retain: 1, Active: 3, Passive: 4, Walk: 5, Drop: 2, Swap: 3, Beat: 4, Silence: 7,
		Seen: 1, Wait: 1, Hot: 1, Limit: 1, Chunk: 1, Full: 1, Cap: 1,
	}
}

// text tells letters and changes in short: "5 part, 0 join: -5 +0".
func text(letters []wire.Letter, changes []overlay.Change) string {
	var l []string
	for _, x := range letters {
		s := fmt.Sprint(x.To, " ", wire.Name(x.Message.Kind))
		switch m := x.Message; m.Kind {
		case wire.Forward:
			s += fmt.Sprint(" ", m.Peer, " ", m.Hops)
		case wire.Neighbor:
			if m.High {
				s += " high"
			}
		case wire.Shuffle:
			s += fmt.Sprint(" ", m.Peer, " ", m.Hops, " ", m.Peers)
		case wire.Swap:
			s += fmt.Sprint(" ", m.Peers)
		}
		l = append(l, s)
	}
	s := strings.Join(l, ", ")
	for i, x := range changes {
		if s += " "; i == 0 {
			s = s[:len(s)-1] + ": "
		}
		if x.Up {
			s += "+"
		} else {
			s += "-"
		}
		s += fmt.Sprint(x.Peer)
	}
	return s
}

// place tells who are neighbours, others, and asked: "1 5|0 2|0", or, where nobody is asked, "1 5|0 2|".
func place(o *overlay.Overlay) string {
	list := func(l []int) string { return strings.Trim(fmt.Sprint(l), "[]") }
	s := list(o.Active()) + "|" + list(o.Passive()) + "|"
	if p, ok := o.Asked(); ok {
		s += fmt.Sprint(p)
	}
	return s
}

// at gives the overlay of the node 3 at a place, with dice that have these numbers.
func at(t *testing.T, c setup.Config, place string, numbers ...int) *both {
	t.Helper()
	var parts [3][]int
	for i, part := range strings.Split(place, "|") {
		for _, f := range strings.Fields(part) {
			n, _ := strconv.Atoi(f)
			parts[i] = append(parts[i], n)
		}
	}
	b := with(t, 3, c, append(parts[2], -1)[0], parts[0], parts[1], numbers)
	is(t, "made so", b, place)
	return b
}

func is(t *testing.T, what string, b *both, want string) {
	t.Helper()
	if got := place(b.o); got != want {
		t.Fatalf("%s: %s, want %s", what, got, want)
	}
}

// tells fails the test where an act tells otherwise.
func (b *both) tells(t *testing.T, what string, a act, want string) {
	t.Helper()
	letters, changes, e := b.acts(t, what, a)
	if got := text(letters, changes); e != api.OK || got != want {
		t.Fatalf("%s: %s: %q, %d, want %q", what, a.name, got, e, want)
	}
}

// refuses fails the test where an act doesn't tell an error, or something is answered beside it, or changed.
func (b *both) refuses(t *testing.T, what string, a act, code api.Errno) {
	t.Helper()
	was, left := place(b.o), b.d.Left()
	letters, changes, e := b.acts(t, what, a)
	if e != code || letters != nil || changes != nil || b.d.Left() != left {
		t.Fatalf("%s: %s: %v, %v, %d, want %d", what, a.name, letters, changes, e, code)
	}
	is(t, what+": "+a.name, b, was)
}

// row is an overlay of the node 3 with what an act comes to: place, told, place, and which numbers are left.
type row struct {
	place   string
	numbers []int
	do      act
	told    string
	after   string
	rest    []int
}

func rows(t *testing.T, c setup.Config, l []row) {
	t.Helper()
	for _, k := range l {
		what := fmt.Sprintf("%s %v", k.place, k.numbers)
		b := at(t, c, k.place, k.numbers...)
		b.tells(t, what, k.do, k.told)
		is(t, what+": "+k.do.name, b, k.after)
		next(t, what+": "+k.do.name, b.d, k.rest)
	}
}

// kind gives a message of a kind without fields, or with such as may be.
func kind(k int) wire.Message { return wire.Message{Kind: k} }

func forward(peer, hops int) wire.Message {
	return wire.Message{Kind: wire.Forward, Peer: peer, Hops: hops}
}

func neighbor(high bool) wire.Message { return wire.Message{Kind: wire.Neighbor, High: high} }

func shuffle(peer, hops int, peers ...int) wire.Message {
	return wire.Message{Kind: wire.Shuffle, Peer: peer, Hops: hops, Peers: peers}
}

func swap(peers ...int) wire.Message { return wire.Message{Kind: wire.Swap, Peers: peers} }

func TestTheExample(t *testing.T) {
	c := config()
	c.Nodes = 2
	zero, one := fresh(t, 0, c), fresh(t, 1, c)
	zero.tells(t, "0", join(1), "1 join: +1")
	one.tells(t, "1", take(0, kind(wire.Join)), ": +0")
	if !slices.Equal(zero.o.Active(), []int{1}) || !slices.Equal(one.o.Active(), []int{0}) {
		t.Fatal(zero.o.Active(), one.o.Active())
	}
}

// P17.1: New.

func TestNew(t *testing.T) {
	for nodes := 2; nodes <= 12; nodes++ {
		for self := range nodes {
			c := config()
			c.Nodes = nodes
			b := fresh(t, self, c)
			b.feed(1, 2)
			b.holds(t, "New")
			is(t, "New", b, "||")
			b.tells(t, "New", tick, "")
			next(t, "New", b.d, []int{1, 2})
		}
	}
}

// It draws from the dice that are handed in, also from numbers that come later.
func TestNewDraws(t *testing.T) {
	d := dice.New(2)
	o, _ := overlay.New(0, config(), d)
	for _, n := range []int{4, 6, 8, 9} {
		o.Heard(n)
	}
	if l, c := o.Tick(); text(l, c) != "8 neighbor high" || d.Left() != 0 {
		t.Fatal(text(l, c), d.Left())
	}
	d.Feed(3)
	o.Heard(1)
	if !slices.Equal(o.Passive(), []int{1, 4, 6, 8}) || d.Left() != 0 {
		t.Fatal(o.Passive(), d.Left())
	}
}

func TestNewOfWhatMayNotBe(t *testing.T) {
	none := func(what string, self int, c setup.Config, code api.Errno) {
		t.Helper()
		if o, e := overlay.New(self, c, dice.New()); o != nil || e != code {
			t.Fatalf("%s: New(%d, %+v): %d, want %d", what, self, c, e, code)
		}
	}
	for nodes := 2; nodes <= 12; nodes++ {
		c := config()
		c.Nodes = nodes
		for _, self := range append(slices.Clone(noSites), -1, nodes, nodes+1) {
			none("self", self, c, api.ErrArg)
		}
	}
	l := setup.List(config())
	for place := range l {
		for _, n := range []int{-1, 1 << 31, 1<<32 + l[place]} {
			bad := l
			bad[place] = n
			for _, self := range []int{0, 9, 10, -1, 12} {
				none("config", self, setup.Of(bad), api.ErrConfig)
			}
		}
	}
	none("zero", 0, setup.Config{}, api.ErrConfig)
}

// P17.1: Join, Leave, Heard.

func TestJoin(t *testing.T) {
	rows(t, config(), []row{
		{"||", []int{8}, join(0), "0 join: +0", "0||", []int{8}},
		{"||", []int{8}, join(9), "9 join: +9", "9||", []int{8}},
		{"1|5|", []int{8}, join(5), "5 join: +5", "1 5||", []int{8}},
		{"1|5|5", []int{8}, join(5), "5 join: +5", "1 5||5", []int{8}},
		{"1 5|6|", []int{8}, join(5), "5 join", "1 5|6|", []int{8}},
		{"1 5 7|6|", []int{8}, join(5), "5 join", "1 5 7|6|", []int{8}},
		// one has to give way, and is told ahead
		{"1 5 7|6|", []int{1, 8}, join(0), "5 part, 0 join: -5 +0", "0 1 7|5 6|", []int{8}},
		{"1 5 7|6|", nil, join(0), "1 part, 0 join: -1 +0", "0 5 7|1 6|", nil},
		{"1 5 7|0 2 4 6|", []int{2, 8}, join(0), "7 part, 0 join: -7 +0", "0 1 5|2 4 6 7|", []int{8}},
		{"1 5 7|0 2 4 6|", []int{0, 3, 8}, join(9), "1 part, 9 join: -1 +9", "5 7 9|0 1 2 4|", []int{8}},
	})
}

func TestJoinOfNoNode(t *testing.T) {
	for _, p := range []string{"||", "1 5|0 6|", "1 5 7|0 2 4 6|0"} {
		b := at(t, config(), p, 1, 1)
		for _, n := range append(slices.Clone(noSites), 3, 10, 11) {
			b.refuses(t, "no node", join(n), api.ErrArg)
		}
	}
}

func TestLeave(t *testing.T) {
	rows(t, config(), []row{
		{"||", []int{8}, leave, "", "||", []int{8}},
		{"|5|", []int{8}, leave, "", "|5|", []int{8}},
		{"1||", []int{8}, leave, "1 part: -1", "|1|", []int{8}},
		{"1 5 7||", []int{8}, leave, "1 part, 5 part, 7 part: -1 -5 -7", "|1 5 7|", []int{8}},
		{"1|5|5", []int{8}, leave, "1 part: -1", "|1 5|5", []int{8}},
		// who comes into the passive view makes others leave it, one by one
		{"5 7|0 2 4 6|", []int{1, 0, 8}, leave, "5 part, 7 part: -5 -7", "|4 5 6 7|", []int{8}},
		{"5 7|0 2 4|", []int{2, 8}, leave, "5 part, 7 part: -5 -7", "|0 2 5 7|", []int{8}},
	})
}

func TestHeard(t *testing.T) {
	rows(t, config(), []row{
		{"||", []int{8}, heard(0), "", "|0|", []int{8}},
		{"||", []int{8}, heard(9), "", "|9|", []int{8}},
		{"1|5|", []int{8}, heard(1), "", "1|5|", []int{8}},
		{"1|5|", []int{8}, heard(5), "", "1|5|", []int{8}},
		{"1|5|5", []int{8}, heard(5), "", "1|5|5", []int{8}},
		{"1|0 2 4|", []int{8}, heard(5), "", "1|0 2 4 5|", []int{8}},
		{"1|0 2 4 6|", []int{2, 8}, heard(5), "", "1|0 2 5 6|", []int{8}},
		{"1|0 2 4 6|", []int{2, 8}, heard(6), "", "1|0 2 4 6|", []int{2, 8}},
	})
	for _, p := range []string{"||", "1 5|0 6|", "1 5 7|0 2 4 6|0"} {
		b := at(t, config(), p, 1, 1)
		for _, n := range append(slices.Clone(noSites), 3, 10, 11) {
			b.refuses(t, "no node", heard(n), api.ErrArg)
		}
	}
}

// P17.2: Take, kind by kind.

func TestTakeJoin(t *testing.T) {
	rows(t, config(), []row{
		{"||", []int{8}, take(0, kind(wire.Join)), ": +0", "0||", []int{8}},
		{"1||", []int{8}, take(9, kind(wire.Join)), "1 forward 9 5: +9", "1 9||", []int{8}},
		{"1 7|5|", []int{8}, take(5, kind(wire.Join)), "1 forward 5 5, 7 forward 5 5: +5", "1 5 7||", []int{8}},
		{"1 7|5|5", []int{8}, take(5, kind(wire.Join)), "1 forward 5 5, 7 forward 5 5: +5", "1 5 7||5", []int{8}},
		// the news of a neighbour that joins goes round, too
		{"1 5 7|0|", []int{8}, take(5, kind(wire.Join)), "1 forward 5 5, 7 forward 5 5", "1 5 7|0|", []int{8}},
		{"1||", []int{8}, take(1, kind(wire.Join)), "", "1||", []int{8}},
		// who has to give way isn't told the news, but that it has to
		{"1 5 7|0|", []int{1, 8}, take(6, kind(wire.Join)), "5 part, 1 forward 6 5, 7 forward 6 5: -5 +6", "1 6 7|0 5|", []int{8}},
		// who comes is learnt first: one of the others leaves for it, and leaves its place to who gives way
		{"1 5 7|0 2 4 6|", []int{1, 2, 8}, take(9, kind(wire.Join)), "7 part, 1 forward 9 5, 5 forward 9 5: -7 +9", "1 5 9|0 4 6 7|", []int{8}},
	})
	c := config()
	c.Walk, c.Drop, c.Active = 8, 0, 1
	rows(t, c, []row{{"1||", []int{8, 8}, take(5, kind(wire.Join)), "1 part: -1 +5", "5|1|", []int{8}}})
	c.Active = 2
	rows(t, c, []row{
		{"1||", []int{8}, take(5, kind(wire.Join)), "1 forward 5 8: +5", "1 5||", []int{8}},
		{"1 2||", []int{8, 8}, take(5, kind(wire.Join)), "1 part, 2 forward 5 8: -1 +5", "2 5|1|", []int{8}},
	})
	c.Walk = 1
	rows(t, c, []row{{"1||", []int{8}, take(5, kind(wire.Join)), "1 forward 5 1: +5", "1 5||", []int{8}}})
}

// Where its way ends the joiner becomes a neighbour.
func TestTakeForwardAtItsEnd(t *testing.T) {
	rows(t, config(), []row{
		// Hops 0
		{"1 5||", []int{8}, take(1, forward(0, 0)), "0 neighbor high: +0", "0 1 5||", []int{8}},
		{"1 5||", []int{8}, take(1, forward(9, 0)), "9 neighbor high: +9", "1 5 9||", []int{8}},
		{"1 5|0|0", []int{8}, take(1, forward(0, 0)), "0 neighbor high: +0", "0 1 5||0", []int{8}},
		{"1 5 7||", []int{2, 8}, take(1, forward(0, 0)), "7 part, 0 neighbor high: -7 +0", "0 1 5|7|", []int{8}},
		{"1 5 7|0 2 4 6|", []int{1, 2, 8}, take(1, forward(9, 0)), "5 part, 9 neighbor high: -5 +9", "1 7 9|0 2 5 6|", []int{8}},
		{"1 5 7||", []int{0, 8}, take(1, forward(0, 0)), "1 part, 0 neighbor high: -1 +0", "0 5 7|1|", []int{8}},
		{"1 5|6|", []int{8}, take(0, forward(6, 0)), "6 neighbor high: +6", "1 5 6|0|", []int{8}},
		// it is one already
		{"1 5||", []int{8}, take(1, forward(5, 0)), "", "1 5||", []int{8}},
		{"1 5 7|0|0", []int{8}, take(0, forward(5, 0)), "", "1 5 7|0|0", []int{8}},
		{"1 5||", []int{8}, take(1, forward(1, 0)), "", "1 5||", []int{8}},
		{"1 5||", []int{8}, take(0, forward(5, 0)), "", "1 5|0|", []int{8}},
		// nobody else is a neighbour
		{"||", []int{8}, take(1, forward(0, 4)), "0 neighbor high: +0", "0|1|", []int{8}},
		{"||", []int{8}, take(1, forward(1, 4)), "1 neighbor high: +1", "1||", []int{8}},
		{"1||", []int{8}, take(1, forward(0, 4)), "0 neighbor high: +0", "0 1||", []int{8}},
		{"1||", []int{8}, take(1, forward(0, 2)), "0 neighbor high: +0", "0 1||", []int{8}},
		{"1||", []int{8}, take(1, forward(0, 8)), "0 neighbor high: +0", "0 1||", []int{8}},
		{"1||", []int{8}, take(0, forward(1, 4)), "", "1|0|", []int{8}},
		{"1||", []int{8}, take(1, forward(1, 4)), "", "1||", []int{8}},
		{"1 5||", []int{8}, take(1, forward(5, 2)), "", "1 5||", []int{8}},
	})
}

// On its way it is passed on to one neighbour, that is drawn of all but who sent it, and the joiner.
func TestTakeForwardOnItsWay(t *testing.T) {
	rows(t, config(), []row{
		{"1 5||", []int{7, 8}, take(1, forward(0, 1)), "5 forward 0 0", "1 5||", []int{8}},
		{"1 5||", []int{7, 8}, take(1, forward(0, 8)), "5 forward 0 7", "1 5||", []int{8}},
		{"1 5||", []int{7, 8}, take(1, forward(9, 5)), "5 forward 9 4", "1 5||", []int{8}},
		{"1||", []int{7, 8}, take(5, forward(0, 1)), "1 forward 0 0", "1|5|", []int{8}},
		{"1 5 7||", []int{0, 8}, take(5, forward(0, 3)), "1 forward 0 2", "1 5 7||", []int{8}},
		{"1 5 7||", []int{1, 8}, take(5, forward(0, 3)), "7 forward 0 2", "1 5 7||", []int{8}},
		{"1 5 7||", []int{1, 8}, take(0, forward(5, 3)), "7 forward 5 2", "1 5 7|0|", []int{8}},
		{"1 5 7||", []int{1, 8}, take(0, forward(6, 3)), "5 forward 6 2", "1 5 7|0|", []int{8}},
		{"1 5 7||", nil, take(1, forward(6, 3)), "5 forward 6 2", "1 5 7||", nil},
		{"1 5 7||", []int{2, 8}, take(1, forward(5, 3)), "7 forward 5 2", "1 5 7||", []int{8}},
		{"1 5 7||", []int{3, 8}, take(1, forward(1, 3)), "7 forward 1 2", "1 5 7||", []int{8}},
		// Hops are Drop: its name is left there, for which another one may have to leave
		{"1 5||", []int{7, 8}, take(1, forward(0, 2)), "5 forward 0 1", "1 5|0|", []int{8}},
		{"1 5||", []int{7, 8}, take(1, forward(9, 2)), "5 forward 9 1", "1 5|9|", []int{8}},
		{"1 5|0|", []int{7, 8}, take(1, forward(0, 2)), "5 forward 0 1", "1 5|0|", []int{8}},
		{"1 5 7|0 2 4 6|", []int{1, 0, 8}, take(1, forward(9, 2)), "5 forward 9 1", "1 5 7|0 4 6 9|", []int{8}},
		{"1 5 7|0 2 4 6|", []int{2, 1, 0, 8}, take(8, forward(9, 2)), "1 forward 9 1", "1 5 7|0 6 8 9|", []int{8}},
		{"1 5 7|0 2 4 6|", []int{1, 8}, take(1, forward(7, 2)), "5 forward 7 1", "1 5 7|0 2 4 6|", []int{8}},
		{"1 5 7||", []int{1, 8}, take(1, forward(5, 2)), "7 forward 5 1", "1 5 7||", []int{8}},
	})
	c := config()
	c.Walk, c.Drop = 8, 8
	rows(t, c, []row{
		{"1 5||", nil, take(1, forward(0, 8)), "5 forward 0 7", "1 5|0|", nil},
		{"1 5||", nil, take(1, forward(0, 7)), "5 forward 0 6", "1 5||", nil},
	})
	c.Drop = 0 // then it is left nowhere on its way
	rows(t, c, []row{
		{"1 5||", nil, take(1, forward(0, 1)), "5 forward 0 0", "1 5||", nil},
		{"1 5||", nil, take(1, forward(0, 0)), "0 neighbor high: +0", "0 1 5||", nil},
	})
}

// Of its own name, or what it tells others of itself, a node makes nothing, but that who sent it is heard.
func TestTakeOfSelf(t *testing.T) {
	for hops := range 9 {
		rows(t, config(), []row{
			{"||", []int{8}, take(1, forward(3, hops)), "", "|1|", []int{8}},
			{"1 5||", []int{8}, take(1, forward(3, hops)), "", "1 5||", []int{8}},
			{"1 5|7|7", []int{8}, take(0, forward(3, hops)), "", "1 5|0 7|7", []int{8}},
			{"||", []int{8}, take(1, shuffle(3, hops, 0, 2)), "", "|1|", []int{8}},
			{"1 5|4|", []int{8}, take(1, shuffle(3, hops)), "", "1 5|4|", []int{8}},
			{"1 5|4|4", []int{8}, take(0, shuffle(3, hops, 9, 3, 2)), "", "1 5|0 4|4", []int{8}},
			{"1|0 2 4 6|", []int{1, 8}, take(9, shuffle(3, hops, 7)), "", "1|0 4 6 9|", []int{8}},
		})
	}
}

func TestTakeNeighbor(t *testing.T) {
	rows(t, config(), []row{
		{"||", []int{8}, take(0, neighbor(false)), "0 accept: +0", "0||", []int{8}},
		{"||", []int{8}, take(9, neighbor(true)), "9 accept: +9", "9||", []int{8}},
		{"1 5|0|0", []int{8}, take(0, neighbor(false)), "0 accept: +0", "0 1 5||0", []int{8}},
		{"1 5|0|", []int{8}, take(0, neighbor(true)), "0 accept: +0", "0 1 5||", []int{8}},
		// as many as there may be
		{"1 5 7|0|", []int{8}, take(0, neighbor(false)), "0 refuse", "1 5 7|0|", []int{8}},
		{"1 5 7||", []int{8}, take(6, neighbor(false)), "6 refuse", "1 5 7|6|", []int{8}},
		{"1 5 7|0|", []int{1, 8}, take(0, neighbor(true)), "5 part, 0 accept: -5 +0", "0 1 7|5|", []int{8}},
		{"1 5 7|0 2 4 6|", []int{1, 1, 8}, take(9, neighbor(true)), "5 part, 9 accept: -5 +9", "1 7 9|0 4 5 6|", []int{8}},
		{"1 5 7|0 2 4 6|", []int{1, 1, 8}, take(9, neighbor(false)), "9 refuse", "1 5 7|0 4 6 9|", []int{1, 8}},
		// one already
		{"1 5 7|0|", []int{8}, take(1, neighbor(false)), "1 accept", "1 5 7|0|", []int{8}},
		{"1 5 7|0|", []int{8}, take(7, neighbor(true)), "7 accept", "1 5 7|0|", []int{8}},
		{"1 5|0|", []int{8}, take(5, neighbor(false)), "5 accept", "1 5|0|", []int{8}},
		{"1 5|0|", []int{8}, take(5, neighbor(true)), "5 accept", "1 5|0|", []int{8}},
	})
	c := config()
	c.Active = 1
	rows(t, c, []row{
		{"1||", []int{8}, take(0, neighbor(false)), "0 refuse", "1|0|", []int{8}},
		{"1||", []int{8, 8}, take(0, neighbor(true)), "1 part, 0 accept: -1 +0", "0|1|", []int{8}},
		{"||", []int{8}, take(0, neighbor(false)), "0 accept: +0", "0||", []int{8}},
	})
}

func TestTakeAnswers(t *testing.T) {
	for _, k := range []int{wire.Accept, wire.Refuse} {
		// of who wasn't asked: it is heard, no more
		rows(t, config(), []row{
			{"||", []int{8}, take(0, kind(k)), "", "|0|", []int{8}},
			{"1|5|", []int{8}, take(5, kind(k)), "", "1|5|", []int{8}},
			{"1|5|", []int{8}, take(1, kind(k)), "", "1|5|", []int{8}},
			{"1|5|5", []int{8}, take(1, kind(k)), "", "1|5|5", []int{8}},
			{"1|0 5|5", []int{8}, take(0, kind(k)), "", "1|0 5|5", []int{8}},
			{"1|5|5", []int{8}, take(9, kind(k)), "", "1|5 9|5", []int{8}},
			{"1|0 2 4 6|4", []int{1, 8}, take(9, kind(k)), "", "1|0 4 6 9|4", []int{8}},
		})
	}
	rows(t, config(), []row{
		{"1|5|5", []int{8}, take(5, kind(wire.Accept)), ": +5", "1 5||", []int{8}},
		{"|0 9|0", []int{8}, take(0, kind(wire.Accept)), ": +0", "0|9|", []int{8}},
		{"|0 9|9", []int{8}, take(9, kind(wire.Accept)), ": +9", "9|0|", []int{8}},
		{"1 5 7|0|0", []int{1, 8}, take(0, kind(wire.Accept)), "5 part: -5 +0", "0 1 7|5|", []int{8}},
		{"1 5 7|0|1", []int{8}, take(1, kind(wire.Accept)), "", "1 5 7|0|", []int{8}}, // it became one meanwhile
		{"1|5|5", []int{8}, take(5, kind(wire.Refuse)), "", "1|5|", []int{8}},
		{"1 5 7|0|0", []int{8}, take(0, kind(wire.Refuse)), "", "1 5 7|0|", []int{8}},
		{"1 5 7|0|1", []int{8}, take(1, kind(wire.Refuse)), "", "1 5 7|0|", []int{8}},
	})
}

// Only the first answer of who was asked counts.
func TestTakeAnswersTwice(t *testing.T) {
	b := at(t, config(), "1|5|5", 8)
	b.tells(t, "first", take(5, kind(wire.Refuse)), "")
	b.tells(t, "second", take(5, kind(wire.Accept)), "")
	is(t, "second", b, "1|5|")
	b = at(t, config(), "1|5|5", 8)
	b.tells(t, "first", take(5, kind(wire.Accept)), ": +5")
	b.tells(t, "parted", take(5, kind(wire.Part)), ": -5")
	b.tells(t, "second", take(5, kind(wire.Accept)), "")
	is(t, "second", b, "1|5|")
}

// Who was asked may be forgotten meanwhile; its answer is taken all the same.
func TestTakeAnswersOfWhoWasForgotten(t *testing.T) {
	for _, k := range []int{wire.Accept, wire.Refuse} {
		b := at(t, config(), "1|0 2 4 6|4", 2, 0, 8)
		b.tells(t, "heard", heard(7), "")
		is(t, "heard", b, "1|0 2 6 7|4")
		if k == wire.Accept {
			b.tells(t, "answered", take(4, kind(k)), ": +4")
			is(t, "answered", b, "1 4|2 6 7|")
		} else {
			b.tells(t, "answered", take(4, kind(k)), "")
			is(t, "answered", b, "1|2 4 6 7|")
		}
		next(t, "answered", b.d, []int{8})
	}
}

func TestTakePart(t *testing.T) {
	rows(t, config(), []row{
		{"||", []int{8}, take(0, kind(wire.Part)), "", "|0|", []int{8}},
		{"1|5|5", []int{8}, take(5, kind(wire.Part)), "", "1|5|5", []int{8}},
		{"1|5|", []int{8}, take(1, kind(wire.Part)), ": -1", "|1 5|", []int{8}},
		{"1 5 7|0|7", []int{8}, take(7, kind(wire.Part)), ": -7", "1 5|0 7|7", []int{8}},
		{"1 5|0 2 4 6|", []int{3, 8}, take(5, kind(wire.Part)), ": -5", "1|0 2 4 5|", []int{8}},
		{"1 5|0 2 4 6|", []int{3, 8}, take(9, kind(wire.Part)), "", "1 5|0 2 4 9|", []int{8}},
	})
}

func TestTakeShuffleOnItsWay(t *testing.T) {
	rows(t, config(), []row{
		{"1 5||", []int{7, 8}, take(1, shuffle(0, 1)), "5 shuffle 0 0 []", "1 5||", []int{8}},
		{"1 5||", []int{7, 8}, take(1, shuffle(9, 8, 9, 3, 0, 0)), "5 shuffle 9 7 [9 3 0 0]", "1 5||", []int{8}},
		{"1 5||", []int{7, 8}, take(1, shuffle(1, 2, 0, 1, 2, 4, 5, 6, 7, 8)), "5 shuffle 1 1 [0 1 2 4 5 6 7 8]", "1 5||", []int{8}},
		{"1 5||", []int{7, 8}, take(1, shuffle(0, 2, 6)), "5 shuffle 0 1 [6]", "1 5||", []int{8}}, // Hops are Drop
		{"1 5 7||", []int{1, 8}, take(5, shuffle(0, 3, 6)), "7 shuffle 0 2 [6]", "1 5 7||", []int{8}},
		{"1 5 7||", []int{1, 8}, take(0, shuffle(5, 3, 6)), "7 shuffle 5 2 [6]", "1 5 7|0|", []int{8}},
		{"1 5 7||", []int{1, 8}, take(0, shuffle(0, 3, 6)), "5 shuffle 0 2 [6]", "1 5 7|0|", []int{8}},
		{"1 5 7||", nil, take(1, shuffle(2, 3, 6)), "5 shuffle 2 2 [6]", "1 5 7||", nil},
		{"1 5 7|0 2 4 6|2", []int{2, 1, 8}, take(9, shuffle(8, 1)), "5 shuffle 8 0 []", "1 5 7|0 2 6 9|2", []int{8}},
	})
}

// Where its way ends the node is told as many others, drawn ahead of those that are learnt then.
func TestTakeShuffleAtItsEnd(t *testing.T) {
	rows(t, config(), []row{
		// Hops 0
		{"1 5|2 4|", []int{1, 0, 3, 8}, take(1, shuffle(0, 0, 6, 7)), "0 swap [4 2]", "1 5|0 2 4 7|", []int{8}},
		{"1 5|2 4|", []int{1, 8}, take(1, shuffle(1, 0, 6)), "1 swap [4]", "1 5|2 4 6|", []int{8}},
		{"1 5|2 4|4", []int{1, 8}, take(1, shuffle(5, 0)), "5 swap []", "1 5|2 4|4", []int{1, 8}},
		{"1 5|2 4|", []int{1, 8}, take(1, shuffle(0, 0)), "0 swap []", "1 5|0 2 4|", []int{1, 8}},
		{"1 5|2 4 6|", []int{1, 1, 8}, take(1, shuffle(4, 0, 2, 6)), "4 swap [6 2]", "1 5|2 4 6|", []int{8}},
		{"1 5|4|", []int{8}, take(1, shuffle(4, 0, 2, 6)), "4 swap []", "1 5|2 4 6|", []int{8}},
		{"1 5||", []int{8}, take(1, shuffle(9, 0, 2)), "9 swap []", "1 5|2 9|", []int{8}},
		{"1 5|4|", []int{7, 8}, take(1, shuffle(1, 0, 4, 4, 4)), "1 swap [4]", "1 5|4|", []int{8}},
		// nobody else is a neighbour
		{"||", []int{8}, take(1, shuffle(0, 4, 2)), "0 swap [1]", "|0 1 2|", nil},
		{"||", []int{8}, take(1, shuffle(1, 4, 2)), "1 swap []", "|1 2|", []int{8}},
		{"1|4|", []int{9, 8}, take(1, shuffle(0, 8, 2)), "0 swap [4]", "1|0 2 4|", []int{8}},
		{"1|4|", []int{9, 8}, take(1, shuffle(1, 1, 2)), "1 swap [4]", "1|2 4|", []int{8}},
		{"1 5|4|", []int{9, 8}, take(1, shuffle(5, 1, 2)), "5 swap [4]", "1 5|2 4|", []int{8}},
		// who is no node, or is known, isn't learnt; the others in order, its Peer first
		{"1 5||", []int{8}, take(1, shuffle(1, 0, 3, 3)), "1 swap []", "1 5||", []int{8}},
		{"1 5|2|", []int{9, 8}, take(1, shuffle(1, 0, 3, 1, 5, 2)), "1 swap [2]", "1 5|2|", []int{8}},
		{"1|2 4 6 8|", []int{9, 3, 0, 8}, take(1, shuffle(0, 0, 7)), "0 swap [4]", "1|2 4 6 7|", []int{8}},
		{"1|2 4 6 8|", []int{0, 2, 1, 3, 8}, take(1, shuffle(5, 0, 0, 9)), "5 swap [2 8]", "1|2 5 6 9|", nil},
		{"1|2 4 6 8|", []int{0, 1, 1, 1, 3, 3, 8}, take(1, shuffle(9, 0, 0, 0, 9)), "9 swap [2 6 8]", "1|0 2 6 9|", []int{8}},
		{"1|2 4 6 8|", []int{3, 2, 0, 8}, take(7, shuffle(2, 0, 6)), "2 swap [7]", "1|2 4 6 7|", []int{0, 8}},
	})
}

func TestTakeSwap(t *testing.T) {
	rows(t, config(), []row{
		{"1|5|5", []int{8}, take(1, swap()), "", "1|5|5", []int{8}},
		{"1|5|", []int{8}, take(1, swap(0)), "", "1|0 5|", []int{8}},
		{"1|5|", []int{8}, take(1, swap(9, 0)), "", "1|0 5 9|", []int{8}},
		{"1|5|", []int{8}, take(1, swap(3, 1, 5, 5, 0, 3)), "", "1|0 5|", []int{8}},
		{"||", []int{8}, take(1, swap(1)), "", "|1|", []int{8}},
		{"||", []int{8}, take(1, swap(0, 9, 2)), "", "|0 1 2 9|", []int{8}},
		// in order, each for one that leaves: who was learnt may, too
		{"1|0 2 4 6|", []int{0, 3, 8}, take(1, swap(7, 9)), "", "1|2 4 6 9|", []int{8}},
		{"1|0 2 4 6|", []int{0, 3, 0, 8}, take(1, swap(7, 9, 7)), "", "1|4 6 7 9|", []int{8}},
		{"1|0 2 4 6|", []int{0, 2, 1, 8}, take(5, swap(7, 8)), "", "1|2 6 7 8|", []int{8}},
	})
}

func TestTakeBeat(t *testing.T) {
	rows(t, config(), []row{
		{"||", []int{8}, take(0, kind(wire.Beat)), "", "|0|", []int{8}},
		{"1|5|5", []int{8}, take(1, kind(wire.Beat)), "", "1|5|5", []int{8}},
		{"1|5|5", []int{8}, take(5, kind(wire.Beat)), "", "1|5|5", []int{8}},
		{"1|0 2 4 6|", []int{1, 8}, take(9, kind(wire.Beat)), "", "1|0 4 6 9|", []int{8}},
	})
}

// P17.2: wrong inputs.

// good gives a message of each kind that an overlay takes.
func good() []wire.Message {
	return []wire.Message{
		kind(wire.Join), forward(1, 3), forward(9, 8), neighbor(true), neighbor(false), kind(wire.Accept), kind(wire.Refuse),
		kind(wire.Part), shuffle(0, 2, 9, 0), shuffle(9, 0), swap(0, 9, 3), swap(), kind(wire.Beat),
	}
}

// bad gives messages that an overlay of ten nodes doesn't take.
func bad() []wire.Message {
	mark := api.Mark{Act: api.Stamp{Counter: 1, Site: 2}, Key: "k"}
	e := api.Entry{Key: "k", Value: "v", Stamp: mark.Act, Act: mark.Act}
	l := []wire.Message{
		// such as may not be
		{}, kind(-1), kind(20), kind(257), {Kind: wire.Join, Peer: 1}, {Kind: wire.Beat, Hops: 1}, {Kind: wire.Part, High: true},
		{Kind: wire.Accept, Peers: []int{1}}, {Kind: wire.Refuse, Number: 1}, {Kind: wire.Swap, Peer: 1}, {Kind: wire.Neighbor, Sum: 1},
		{Kind: wire.Forward, Peers: []int{1}}, {Kind: wire.Shuffle, Mark: mark}, {Kind: wire.Swap, Marks: []api.Mark{mark}},
		{Kind: wire.Beat, Entries: []api.Entry{e}}, forward(0, 9), forward(0, -1), shuffle(0, 9), shuffle(0, -1),
		swap(0, 1, 2, 4, 5, 6, 7, 8, 9), shuffle(0, 0, 0, 1, 2, 4, 5, 6, 7, 8, 9),
		// such as are for others
		kind(wire.Prune), {Kind: wire.Gossip, Entries: []api.Entry{e}}, {Kind: wire.Have, Marks: []api.Mark{mark}},
		{Kind: wire.Graft, Marks: []api.Mark{mark}}, {Kind: wire.Rumors, Entries: []api.Entry{e}}, kind(wire.Echo),
		kind(wire.Check), kind(wire.Match), kind(wire.Peel), kind(wire.Pile),
	}
	for _, n := range append(slices.Clone(noSites), 10, 11) {
		l = append(l, forward(n, 0), forward(n, 3), shuffle(n, 0), shuffle(n, 3, 1), swap(n), swap(0, 1, n), swap(n, 2),
			shuffle(0, 0, n), shuffle(0, 3, 1, n), shuffle(3, 1, n))
	}
	return l
}

// places are some at which an overlay of the node 3 may be.
var places = []string{"||", "1|0|", "1 5|0 6|0", "1 5 7|0 2 4 6|0", "1 5 7|0 2 4 6|7"}

func TestTakeOfNoNode(t *testing.T) {
	for _, p := range places {
		b := at(t, config(), p, 1, 1)
		for _, from := range append(slices.Clone(noSites), 3, 10, 11) {
			for _, m := range slices.Concat(good(), bad()) {
				b.refuses(t, "no node", take(from, m), api.ErrArg)
			}
		}
	}
}

func TestTakeOfWhatMayNotBe(t *testing.T) {
	for _, p := range places {
		b := at(t, config(), p, 1, 1)
		for _, m := range bad() {
			for _, from := range []int{0, 1, 2, 7, 9} {
				b.refuses(t, "may not be", take(from, m), api.ErrForm)
			}
		}
	}
}

// Which numbers are nodes hangs on how many there are.
func TestTakeAtTheLastNode(t *testing.T) {
	for nodes := 2; nodes <= 12; nodes++ {
		c := config()
		c.Nodes = nodes
		last := nodes - 1
		for _, m := range []wire.Message{forward(last, 0), forward(last, 1), shuffle(last, 0), shuffle(last, 1), swap(last), shuffle(0, 0, last), shuffle(0, 1, 1, last)} {
			b := fresh(t, 0, c)
			if _, _, e := b.acts(t, "the last", take(1, m)); e != api.OK {
				t.Fatal(nodes, m, e)
			}
		}
		for _, m := range []wire.Message{forward(nodes, 0), forward(nodes, 1), shuffle(nodes, 0), shuffle(nodes, 1), swap(nodes), shuffle(0, 0, nodes), shuffle(0, 1, 1, nodes)} {
			fresh(t, 0, c).refuses(t, "one more", take(1, m), api.ErrForm)
		}
		if _, _, e := fresh(t, 0, c).acts(t, "from the last", take(last, kind(wire.Join))); e != api.OK {
			t.Fatal(nodes, e)
		}
		fresh(t, 0, c).refuses(t, "from one more", take(nodes, kind(wire.Join)), api.ErrArg)
		fresh(t, last, c).refuses(t, "from self", take(last, kind(wire.Join)), api.ErrArg)
	}
}
