package overlay_test

import (
	"fmt"
	"math/rand"
	"slices"
	"testing"

	"quidnunc/api"
	"quidnunc/dice"
	"quidnunc/overlay"
	"quidnunc/setup"
	"quidnunc/wire"
)

// P17.5.

// kept is an overlay, and its neighbours, as the changes tell them.
type kept struct {
	o          *overlay.Overlay
	self       int
	c          setup.Config
	neighbours map[int]struct{}
}

func keep(t *testing.T, self int, c setup.Config, d *dice.Dice) *kept {
	t.Helper()
	o, e := overlay.New(self, c, d)
	if e != api.OK {
		t.Fatal(self, c, e)
	}
	return &kept{o, self, c, map[int]struct{}{}}
}

// isAnother tells whether a number is another node's.
func (k *kept) isAnother(n int) bool { return n >= 0 && n < k.c.Nodes && n != k.self }

// sound fails the test where what an act answered, or what it left, may not be.
func (k *kept) sound(t *testing.T, what string, letters []wire.Letter, changes []overlay.Change) {
	t.Helper()
	for _, l := range letters {
		if !k.isAnother(l.To) || wire.Good(l.Message) != api.OK || l.Message.Kind > wire.Beat {
			t.Fatalf("%s: a letter of %d: %+v", what, k.self, l)
		}
	}
	for _, c := range changes {
		_, is := k.neighbours[c.Peer]
		if !k.isAnother(c.Peer) || is == c.Up {
			t.Fatalf("%s: of %v: %v", what, k.neighbours, changes)
		}
		if c.Up {
			k.neighbours[c.Peer] = struct{}{}
		} else {
			delete(k.neighbours, c.Peer)
		}
		if len(k.neighbours) > k.c.Active { // who gives way is told ahead of the one that is raised
			t.Fatalf("%s: more than may be: %v", what, changes)
		}
	}
	in, out, all := k.o.Active(), k.o.Passive(), k.o.Known()
	if len(in) > k.c.Active || len(out) > k.c.Passive || len(all) != len(in)+len(out) || len(in) != len(k.neighbours) {
		t.Fatalf("%s: %v, %v, %v; %v", what, in, out, all, k.neighbours)
	}
	for i, n := range all {
		_, is := k.neighbours[n]
		if !k.isAnother(n) || i > 0 && all[i-1] >= n || slices.Contains(in, n) != is || slices.Contains(out, n) == is {
			t.Fatalf("%s: %v, %v, %v; %v", what, in, out, all, k.neighbours)
		}
	}
	if p, ok := k.o.Asked(); ok && !k.isAnother(p) || !ok && p != 0 {
		t.Fatalf("%s: asked is %d, %v", what, p, ok)
	}
}

func TestOverlaysStaySound(t *testing.T) {
	for seed := range 500 {
		r := rand.New(rand.NewSource(int64(seed)))
		c, d := configAtWill(r), dice.New()
		k := keep(t, r.Intn(c.Nodes), c, d)
		for i := range 150 {
			d.Feed(numbersAtWill(r, 3)...)
			a := actAtWill(r, c.Nodes)
			letters, changes, e := a.do(k.o)
			if e != api.OK && (letters != nil || changes != nil) {
				t.Fatal(seed, i, a.name, letters, changes, e)
			}
			k.sound(t, fmt.Sprint("seed ", seed, ", act ", i, ": ", a.name), letters, changes)
		}
	}
}

// post is letters on their way.
type post struct {
	from int
	wire.Letter
}

// Nodes that take one another's letters, some of which are lost, or come late, stay sound, too.
func TestManyOverlaysStaySound(t *testing.T) {
	for seed := range 60 {
		r := rand.New(rand.NewSource(int64(seed)))
		c := configAtWill(r)
		var nodes []*kept
		var all []*dice.Dice
		for self := range c.Nodes {
			all = append(all, dice.New())
			nodes = append(nodes, keep(t, self, c, all[self]))
		}
		var way []post
		does := func(n int, a act) {
			all[n].Feed(numbersAtWill(r, 4)...)
			letters, changes, e := a.do(nodes[n].o)
			if e != api.OK {
				t.Fatal(seed, n, a.name, e)
			}
			nodes[n].sound(t, fmt.Sprint("seed ", seed, ", node ", n, ": ", a.name), letters, changes)
			for _, l := range letters {
				if r.Intn(20) > 0 {
					way = append(way, post{n, l})
				}
			}
		}
		for round := range 40 {
			for n := range c.Nodes {
				if round < 2 && n > 0 {
					does(n, join(r.Intn(n)))
				}
				if r.Intn(60) == 0 {
					does(n, leave)
				}
				does(n, tick)
			}
			for at := 0; at < len(way) && at < 500; {
				if r.Intn(8) == 0 {
					at++
					continue
				}
				l := way[at]
				way = slices.Delete(way, at, at+1)
				does(l.To, take(l.from, l.Message))
			}
		}
	}
}

// P17.6.

// In a roomy configuration whoever was known is known.
func TestNobodyIsForgotten(t *testing.T) {
	for seed := range 300 {
		r := rand.New(rand.NewSource(int64(seed)))
		c := configAtWill(r)
		c.Passive = c.Nodes - 1 + r.Intn(13-c.Nodes)
		if !setup.Roomy(c) {
			t.Fatal(c)
		}
		b := fresh(t, r.Intn(c.Nodes), c)
		was := b.o.Known()
		for i := range 200 {
			b.feed(numbersAtWill(r, 3)...)
			a := actAtWill(r, c.Nodes)
			b.acts(t, fmt.Sprint("seed ", seed, ", act ", i), a)
			is := b.o.Known()
			if slices.ContainsFunc(was, func(n int) bool { return !slices.Contains(is, n) }) {
				t.Fatalf("seed %d, act %d: %s: known were %v, are %v", seed, i, a.name, was, is)
			}
			was = is
		}
	}
}

// Each way to be known, with just as much room as it takes: all others are known, whatever is done then.
func TestAllAreKnown(t *testing.T) {
	for nodes := 2; nodes <= 12; nodes++ {
		c := config()
		c.Nodes, c.Passive, c.Active, c.Beat, c.Silence = nodes, nodes-1, 1, 1, 1
		all := make([]int, nodes-1)
		for i := range all {
			all[i] = i + 1
		}
		var ways [][]act
		for i := range 7 {
			var way []act
			for _, n := range all {
				way = append(way, []act{
					join(n), heard(n), take(n, kind(wire.Join)), take(1, forward(n, 0)), take(1, shuffle(n, 0)), take(1, shuffle(1, 0, n)), take(1, swap(0, n)),
				}[i])
			}
			ways = append(ways, way)
		}
		for i, way := range ways {
			b := fresh(t, 0, c)
			for _, a := range way {
				b.acts(t, "to be known", a)
			}
			for _, a := range []act{tick, tick, tick, leave, tick, join(1), tick, take(1, kind(wire.Part)), leave} {
				b.acts(t, "then", a)
				if !slices.Equal(b.o.Known(), all) {
					t.Fatal(nodes, i, a.name, b.o.Known())
				}
			}
		}
	}
}

// K5: what is handed in is neither changed nor kept; what is told is new memory.

func TestWhatIsHandedInIsNotKept(t *testing.T) {
	for _, m := range []wire.Message{shuffle(0, 3, 9, 0, 8), shuffle(0, 0, 9, 0, 8), swap(9, 0, 8)} {
		for _, room := range []int{0, 4} {
			b := at(t, config(), "1 5|2 4|")
			l := append(make([]int, 0, len(m.Peers)+room), m.Peers...)
			handed := m
			handed.Peers = l
			letters, _, _ := b.acts(t, "handed in", take(1, handed))
			if !slices.Equal(l, m.Peers) {
				t.Fatal("changed: ", l, m.Peers)
			}
			was := text(letters, nil)
			for i := range l[:cap(l)] {
				l[:cap(l)][i] = 7
			}
			if text(letters, nil) != was {
				t.Fatal("kept: ", text(letters, nil), was)
			}
			b.holds(t, "handed in")
		}
	}
}

// What is told may be written over, whatever there is behind it.
func TestWhatIsToldIsNotKept(t *testing.T) {
	for seed := range 150 {
		r := rand.New(rand.NewSource(int64(seed)))
		c := configAtWill(r)
		b := fresh(t, r.Intn(c.Nodes), c)
		for i := range 60 {
			b.feed(numbersAtWill(r, 3)...)
			letters, changes, _ := b.acts(t, fmt.Sprint("seed ", seed, ", act ", i), actAtWill(r, c.Nodes))
			for _, l := range [][]int{b.o.Active(), b.o.Passive(), b.o.Known()} {
				overwrite(l, 77)
			}
			for _, l := range letters {
				overwrite(l.Message.Peers, 77)
			}
			overwrite(letters, wire.Letter{To: 77})
			overwrite(changes, overlay.Change{Peer: 77})
			b.holds(t, "written over")
		}
	}
}

func overwrite[T any](l []T, by T) {
	l = l[:cap(l)]
	for i := range l {
		l[i] = by
	}
}

// What is told stays, whatever comes about then.
func TestWhatIsToldStays(t *testing.T) {
	for seed := range 100 {
		r := rand.New(rand.NewSource(int64(seed)))
		c := configAtWill(r)
		b := fresh(t, r.Intn(c.Nodes), c)
		var again []func() string
		var was []string
		for i := range 60 {
			b.feed(numbersAtWill(r, 3)...)
			letters, changes, _ := b.acts(t, fmt.Sprint("seed ", seed, ", act ", i), actAtWill(r, c.Nodes))
			in, out, all := b.o.Active(), b.o.Passive(), b.o.Known()
			f := func() string { return fmt.Sprint(text(letters, changes), in, out, all) }
			again, was = append(again, f), append(was, f())
		}
		for i, f := range again {
			if f() != was[i] {
				t.Fatal(seed, i, f(), was[i])
			}
		}
	}
}

// The letters of one answer share nothing with one another.
func TestLettersShareNothing(t *testing.T) {
	c := config()
	c.Beat = 1
	b := at(t, c, "1 5 7|0 2 4 6|")
	letters, _, _ := b.acts(t, "tick", tick)
	was := text(letters[:3], nil)
	overwrite(letters[3].Message.Peers, 9)
	_ = append(letters[0].Message.Peers, 9)
	if text(letters[:3], nil) != was || !slices.Equal(b.o.Passive(), []int{0, 2, 4, 6}) {
		t.Fatal(text(letters, nil), b.o.Passive())
	}
}

// K6: overlays have nothing in common but the dice that they share.

func TestOverlaysHaveNothingInCommon(t *testing.T) {
	one, two := at(t, config(), "1 5|0 2|0"), at(t, config(), "7|4 6|")
	r := rand.New(rand.NewSource(5))
	for i := range 300 {
		one.feed(numbersAtWill(r, 2)...)
		two.feed(numbersAtWill(r, 2)...)
		one.acts(t, fmt.Sprint("one ", i), actAtWill(r, 10))
		two.holds(t, "the other one")
		two.acts(t, fmt.Sprint("two ", i), actAtWill(r, 10))
		one.holds(t, "the one")
	}
}

func TestDiceOfTwo(t *testing.T) {
	d := dice.New()
	one, _ := overlay.New(0, config(), d)
	two, _ := overlay.New(1, config(), d)
	for _, n := range []int{4, 6, 8, 9} {
		one.Heard(n)
		two.Heard(n)
	}
	d.Feed(3, 1)
	l, _ := one.Tick()
	m, _ := two.Tick()
	if text(l, nil) != "9 neighbor high" || text(m, nil) != "6 neighbor high" || d.Left() != 0 {
		t.Fatal(text(l, nil), text(m, nil), d.Left())
	}
}

func TestTheSameAnswersToTheSame(t *testing.T) {
	story := func(seed int64) string {
		r := rand.New(rand.NewSource(seed))
		c, d := configAtWill(r), dice.New(numbersAtWill(r, 200)...)
		o, _ := overlay.New(r.Intn(c.Nodes), c, d)
		var answers []string
		for range 80 {
			letters, changes, e := actAtWill(r, c.Nodes).do(o)
			answers = append(answers, fmt.Sprint(text(letters, changes), e, place(o), d.Left()))
		}
		return fmt.Sprint(answers)
	}
	var first []string
	for seed := range 30 {
		first = append(first, story(int64(seed)))
	}
	for seed := 29; seed >= 0; seed-- {
		if story(int64(seed)) != first[seed] {
			t.Fatal("seed ", seed)
		}
	}
}

// Each call answers its own letters and changes alone, also behind one that was refused.
func TestEachCallTellsItsOwn(t *testing.T) {
	b := at(t, config(), "1 5|0|")
	b.tells(t, "first", join(0), "0 join: +0")
	b.refuses(t, "refused", join(3), api.ErrArg)
	b.refuses(t, "refused", take(1, kind(wire.Pile)), api.ErrForm)
	b.tells(t, "second", heard(6), "")
	b.tells(t, "third", take(6, neighbor(false)), "6 refuse")
	b.tells(t, "fourth", take(6, kind(wire.Beat)), "")
	b.tells(t, "fifth", take(5, kind(wire.Part)), ": -5")
}
