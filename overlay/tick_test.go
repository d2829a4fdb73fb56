package overlay_test

import (
	"fmt"
	"slices"
	"strings"
	"testing"

	"quidnunc/overlay"
	"quidnunc/setup"
	"quidnunc/wire"
)

// P17.3: Tick, P17.4: Asked.

// quiet gives a configuration in which nodes seldom show that they are there, and nobody is lowered for long.
func quiet() setup.Config {
	c := config()
	c.Beat, c.Silence = 16, 64
	return c
}

// goBy lets ticks go by, whatever they tell.
func (b *both) goBy(t *testing.T, n int) {
	t.Helper()
	for i := range n {
		b.acts(t, fmt.Sprint("tick ", i), tick)
	}
}

func TestSilence(t *testing.T) {
	for _, silence := range []int{1, 2, 7, 63, 64} {
		c := config()
		c.Beat, c.Silence = 1, silence
		b := at(t, c, "1 5 7||")
		b.goBy(t, silence)
		is(t, "not yet", b, "1 5 7||")
		b.tells(t, "too long", tick, "1 neighbor high: -1 -5 -7")
		is(t, "too long", b, "|1 5 7|1")
	}
}

// Who wasn't heard for too long makes others leave the passive view, one by one.
func TestSilenceOfMany(t *testing.T) {
	c := config()
	c.Beat, c.Silence = 2, 2
	b := at(t, c, "1 5 7|0 2 4 6|")
	b.goBy(t, 2)
	b.feed(1, 3, 0, 2, 8)
	b.tells(t, "too long", tick, "5 neighbor high: -1 -5 -7") // for them 2, 6 and 0 leave
	is(t, "too long", b, "|1 4 5 7|5")
	next(t, "too long", b.d, []int{8})
}

// Whoever a message comes from was heard, and nobody else.
func TestHeardIsNotSilent(t *testing.T) {
	c := config()
	c.Nodes, c.Beat, c.Silence, c.Active = 8, 5, 5, 2
	acts := []act{heard(1)}
	for _, m := range []wire.Message{
		kind(wire.Join), forward(3, 0), forward(1, 0), forward(0, 2), forward(5, 4), neighbor(true), neighbor(false), kind(wire.Accept),
		kind(wire.Refuse), shuffle(3, 0), shuffle(0, 1, 7), shuffle(1, 0, 7), swap(), swap(0, 5), kind(wire.Beat),
	} {
		acts = append(acts, take(1, m))
	}
	for _, a := range acts {
		for _, ahead := range []int{0, 1, 4, 5} {
			b := at(t, c, "1 5|0|", 0, 0, 0, 0, 0)
			b.goBy(t, ahead)
			b.acts(t, "heard", a)
			lowered := map[int]int{}
			for i := 1; i <= 12; i++ {
				b.goBy(t, 1)
				for _, n := range []int{1, 5} {
					if lowered[n] == 0 && !slices.Contains(b.o.Active(), n) {
						lowered[n] = i
					}
				}
			}
			if lowered[1] != 6 || lowered[5] != 6-ahead {
				t.Fatal(a.name, ahead, lowered)
			}
		}
	}
}

// Who is named, or joined once more, or told something, wasn't heard; nor who sent what may not be.
func TestNamedIsNotHeard(t *testing.T) {
	c := config()
	c.Beat, c.Silence = 7, 7
	acts := []act{
		join(1), heard(5), heard(0), take(5, forward(1, 0)), take(5, forward(1, 2)), take(5, swap(1)), take(0, shuffle(1, 0, 1)),
		take(5, shuffle(1, 3, 1)), take(5, shuffle(1, 0)), take(5, kind(wire.Join)), take(0, kind(wire.Accept)),
		take(1, wire.Message{}), take(1, kind(wire.Prune)), take(1, swap(10)), take(1, forward(12, 0)), take(-1, kind(wire.Beat)), take(3, kind(wire.Beat)),
	}
	for _, a := range acts {
		b := at(t, c, "1 5|0|")
		b.goBy(t, 7)
		b.acts(t, "named", a)
		if !slices.Contains(b.o.Active(), 1) {
			t.Fatal(a.name, place(b.o))
		}
		b.goBy(t, 1)
		if slices.Contains(b.o.Active(), 1) {
			t.Fatal(a.name, "1 should be lowered: ", place(b.o))
		}
	}
}

// Who becomes a neighbour was heard just then, however long it was silent when it was one last.
func TestRaisedIsHeard(t *testing.T) {
	c := config()
	c.Beat, c.Silence, c.Active = 7, 7, 1
	for _, a := range []act{join(1), take(5, forward(1, 0)), take(5, forward(1, 1)), take(1, kind(wire.Join)), take(1, neighbor(true))} {
		for _, between := range []int{0, 1, 5} {
			b := at(t, c, "1||")
			b.goBy(t, 7)
			b.tells(t, "another one", join(5), "1 part, 5 join: -1 +5")
			b.goBy(t, between)
			b.acts(t, "raised", a)
			is(t, "raised", b, "1|5|")
			b.goBy(t, 7)
			is(t, a.name, b, "1|5|")
			b.goBy(t, 1)
			if slices.Contains(b.o.Active(), 1) {
				t.Fatal(a.name, place(b.o))
			}
		}
	}
}

// Who was lowered, and is asked, and accepts, was heard then.
func TestAcceptedIsHeard(t *testing.T) {
	c := config()
	c.Beat, c.Silence = 7, 7
	b := at(t, c, "1||")
	b.goBy(t, 7)
	b.tells(t, "lowered and asked", tick, "1 neighbor high: -1")
	b.tells(t, "accepted", take(1, kind(wire.Accept)), ": +1")
	b.goBy(t, 7)
	is(t, "not yet", b, "1||")
	b.goBy(t, 1)
	is(t, "too long", b, "|1|1")
}

func TestAsk(t *testing.T) {
	c := quiet()
	rows(t, c, []row{
		{"||", []int{8}, tick, "", "||", []int{8}},
		{"1||", []int{8}, tick, "", "1||", []int{8}},
		{"|5|", []int{7, 8}, tick, "5 neighbor high", "|5|5", []int{8}},
		{"1|5|", []int{7, 8}, tick, "5 neighbor", "1|5|5", []int{8}},
		{"1 5|0|", []int{7, 8}, tick, "0 neighbor", "1 5|0|0", []int{8}},
		{"1|0 2 4 6|", []int{2, 8}, tick, "4 neighbor", "1|0 2 4 6|4", []int{8}},
		{"|0 2 4 6|", []int{3, 8}, tick, "6 neighbor high", "|0 2 4 6|6", []int{8}},
		{"|0 2 4 6|", nil, tick, "0 neighbor high", "|0 2 4 6|0", nil},
		// as many neighbours as there may be
		{"1 5 7|0|", []int{8}, tick, "", "1 5 7|0|", []int{8}},
		// somebody is asked
		{"1|5|5", []int{8}, tick, "", "1|5|5", []int{8}},
		{"1|0 5|0", []int{8}, tick, "", "1|0 5|0", []int{8}},
		{"|0 5|5", []int{8}, tick, "", "|0 5|5", []int{8}},
		{"1 5|0|1", []int{8}, tick, "", "1 5|0|1", []int{8}},
	})
	c.Active = 1
	rows(t, c, []row{
		{"1|5|", []int{8}, tick, "", "1|5|", []int{8}},
		{"|5|", []int{7, 8}, tick, "5 neighbor high", "|5|5", []int{8}},
	})
	c.Active = 6 // more than there are others but one
	c.Nodes = 6
	rows(t, c, []row{
		{"0 1 2 4 5||", []int{8}, tick, "", "0 1 2 4 5||", []int{8}},
		{"0 1 2 4|5|", []int{7, 8}, tick, "5 neighbor", "0 1 2 4|5|5", []int{8}},
	})
}

func TestPatience(t *testing.T) {
	for _, k := range []struct{ place, told, after string }{
		{"1|5|5", "5 neighbor", "1|5|5"},
		{"|0 5|5", "0 neighbor high", "|0 5|0"},
		{"1|5|1", "5 neighbor", "1|5|5"},
		{"1||1", "", "1||"},
		{"1 5 7|0|0", "", "1 5 7|0|"},
		{"1 5 7||5", "", "1 5 7||"},
	} {
		b := at(t, quiet(), k.place)
		for i := range setup.Patience - 1 {
			b.tells(t, fmt.Sprint("tick ", i), tick, "")
			is(t, fmt.Sprint("tick ", i), b, k.place)
		}
		b.tells(t, "the last", tick, k.told)
		is(t, "the last", b, k.after)
	}
}

// Each one that is asked is waited for as long, also behind one that answered, or didn't.
func TestPatienceAgain(t *testing.T) {
	for ahead := range setup.Patience {
		for _, k := range []int{wire.Refuse, wire.Accept} {
			b := at(t, quiet(), "1|0 5|5")
			b.goBy(t, ahead)
			b.acts(t, "answered", take(5, kind(k)))
			is(t, "answered", b, map[int]string{wire.Refuse: "1|0 5|", wire.Accept: "1 5|0|"}[k])
			b.tells(t, "the next", tick, "0 neighbor")
			b.goBy(t, 3)
			if asked, ok := b.o.Asked(); asked != 0 || !ok {
				t.Fatal("too early: ", place(b.o))
			}
			b.feed(1)
			b.acts(t, "given up", tick)
			if asked, _ := b.o.Asked(); asked != map[int]int{wire.Refuse: 5, wire.Accept: 0}[k] || b.d.Left() != 0 {
				t.Fatal("not given up: ", place(b.o), b.d.Left())
			}
		}
	}
	b := at(t, quiet(), "|0|")
	for i := range 40 {
		want := ""
		if i%setup.Patience == 0 {
			want = "0 neighbor high"
		}
		b.tells(t, fmt.Sprint("tick ", i), tick, want)
	}
	for range 3 { // an answer at any time sets the next one's patience to its beginning
		b.tells(t, "answered", take(0, kind(wire.Refuse)), "")
		for i := range 3 {
			b.tells(t, fmt.Sprint("tick ", i), tick, []string{"0 neighbor high", "", ""}[i])
		}
	}
}

func TestBeatRows(t *testing.T) {
	c := config()
	c.Beat = 1
	rows(t, c, []row{
		{"||", []int{8}, tick, "", "||", []int{8}},
		{"1||", []int{7, 8}, tick, "1 beat, 1 shuffle 3 5 []", "1||", []int{8}},
		{"1 5 7||", []int{1, 8}, tick, "1 beat, 5 beat, 7 beat, 5 shuffle 3 5 []", "1 5 7||", []int{8}},
		{"1 5 7|0 2 4 6|", []int{2, 3, 0, 1, 8}, tick, "1 beat, 5 beat, 7 beat, 7 shuffle 3 5 [6 0 4]", "1 5 7|0 2 4 6|", []int{8}},
		{"1 5 7|0 2|", []int{0, 1, 8}, tick, "1 beat, 5 beat, 7 beat, 1 shuffle 3 5 [2 0]", "1 5 7|0 2|", nil},
		{"1 5 7|0|", nil, tick, "1 beat, 5 beat, 7 beat, 1 shuffle 3 5 [0]", "1 5 7|0|", nil},
		// whom it asks is drawn ahead
		{"1|0 2|", []int{1, 0, 1, 0, 8}, tick, "2 neighbor, 1 beat, 1 shuffle 3 5 [2 0]", "1|0 2|2", []int{8}},
		{"|0 2|", []int{1, 8}, tick, "2 neighbor high", "|0 2|2", []int{8}},
	})
	c.Swap, c.Walk = 1, 8
	rows(t, c, []row{
		{"1 5 7|0 2 4 6|", []int{2, 3, 8}, tick, "1 beat, 5 beat, 7 beat, 7 shuffle 3 8 [6]", "1 5 7|0 2 4 6|", []int{8}},
	})
	c.Swap, c.Walk, c.Drop, c.Passive, c.Nodes, c.Active = 8, 1, 0, 11, 12, 1
	rows(t, c, []row{
		{"1|0 2 4 5 6 7 8 9 10 11|", []int{0, 9, 8, 7, 6, 5, 4, 3, 2, 1, 8}, tick, "1 beat, 1 shuffle 3 1 [11 10 9 8 7 6 5 4]", "1|0 2 4 5 6 7 8 9 10 11|", []int{1, 8}},
	})
}

// A node shows that it is there when the number of all its ticks is a multiple of Beat, whatever else came about.
func TestBeatTimes(t *testing.T) {
	for beat := 1; beat <= 16; beat++ {
		c := config()
		c.Beat, c.Silence = beat, 64
		b := fresh(t, 3, c)
		joined := beat / 2 // when it has its first neighbour
		for i := 1; i <= 3*beat+2; i++ {
			if i == joined+1 {
				b.tells(t, "joined", join(1), "1 join: +1")
			}
			want := ""
			if i > joined && i%beat == 0 {
				want = "1 beat, 1 shuffle 3 5 []"
			}
			b.tells(t, fmt.Sprint("tick ", i), tick, want)
		}
	}
}

// All that a tick does is done in this order: who is silent, who was asked, who is asked, who is told.
func TestTickInOrder(t *testing.T) {
	c := config()
	c.Beat, c.Silence, c.Active = 1, 1, 2
	b := at(t, c, "1 5|0 2 4 6|")
	b.goBy(t, 1)
	b.acts(t, "heard", heard(1))
	b.feed(1, 2, 9, 3, 0, 0, 8)
	b.tells(t, "both", tick, "5 neighbor, 1 beat, 1 shuffle 3 5 [6 0 4]: -5")
	is(t, "both", b, "1|0 4 5 6|5")
	next(t, "both", b.d, []int{8})
}

// Whom nobody waits for any more may be asked again within the tick, and who was lowered within it, too.
func TestTickAsksWhoWasLowered(t *testing.T) {
	c := config()
	c.Beat, c.Silence = 3, 3
	b := at(t, c, "1||1") // asked at the first tick, as no neighbour
	b.goBy(t, 3)
	is(t, "not yet", b, "1||1")
	b.tells(t, "both", tick, "1 neighbor high: -1")
	is(t, "both", b, "|1|1")
}

// P17.4.

func TestWhatIsTold(t *testing.T) {
	b := at(t, config(), "5 7|1 4 6|1")
	if !slices.Equal(b.o.Known(), []int{1, 4, 5, 6, 7}) || !slices.Equal(b.o.Active(), []int{5, 7}) || !slices.Equal(b.o.Passive(), []int{1, 4, 6}) {
		t.Fatal(b.o.Known(), b.o.Active(), b.o.Passive())
	}
	if p, ok := b.o.Asked(); p != 1 || !ok {
		t.Fatal(p, ok)
	}
	b = at(t, config(), "|0 1|0")
	if p, ok := b.o.Asked(); p != 0 || !ok {
		t.Fatal(p, ok)
	}
	b.acts(t, "refused", take(0, kind(wire.Refuse)))
	if p, ok := b.o.Asked(); p != 0 || ok {
		t.Fatal(p, ok)
	}
}

// Each change is told once, in the order in which it comes about.
func TestChangesInOrder(t *testing.T) {
	c := config()
	c.Active = 2
	b := at(t, c, "1 5||", 1)
	_, changes, _ := b.acts(t, "join", join(0))
	if !slices.Equal(changes, []overlay.Change{{Peer: 5}, {Peer: 0, Up: true}}) {
		t.Fatal(changes)
	}
	letters, changes, _ := b.acts(t, "leave", leave)
	if !slices.Equal(changes, []overlay.Change{{Peer: 0}, {Peer: 1}}) || !strings.HasPrefix(text(letters, nil), "0 part, 1 part") {
		t.Fatal(letters, changes)
	}
	letters, changes, _ = b.acts(t, "again", leave)
	if letters != nil || changes != nil {
		t.Fatal(letters, changes)
	}
}
