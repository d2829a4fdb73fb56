package overlay_test

import (
	"fmt"
	"math"
	"math/rand"
	"slices"
	"testing"

	"quidnunc/api"
	"quidnunc/dice"
	"quidnunc/overlay"
	"quidnunc/setup"
	"quidnunc/wire"
)

// Where a node may be.
const (
	unknown = iota
	active
	passive
)

// plain is an overlay as the document has it, with views and dice of its own: of each node in which view it is.
type plain struct {
	self    int
	c       setup.Config
	in      [12]int
	ago     [12]int
	ticks   int
	asked   int // -1: nobody
	since   int
	numbers []int
	letters []wire.Letter
	changes []overlay.Change
}

// Views.

func (p *plain) of(view int, without ...int) []int {
	var l []int
	for n := range p.in {
		if p.in[n] == view && !slices.Contains(without, n) {
			l = append(l, n)
		}
	}
	return l
}

func (p *plain) known() []int {
	var l []int
	for n := range p.in {
		if p.in[n] != unknown {
			l = append(l, n)
		}
	}
	return l
}

func (p *plain) room(view int) bool {
	places := p.c.Active
	if view == passive {
		places = p.c.Passive
	}
	return len(p.of(view)) < places
}

func (p *plain) draw(below int) int {
	if len(p.numbers) == 0 {
		return 0
	}
	first := p.numbers[0]
	p.numbers = p.numbers[1:]
	return (first%below + below) % below
}

func (p *plain) pick(l []int) int { return l[p.draw(len(l))] }

func (p *plain) some(l []int, k int) []int {
	var drawn []int
	for len(drawn) < k && len(l) > 0 {
		at := p.draw(len(l))
		drawn = append(drawn, l[at])
		l = slices.Concat(l[:at], l[at+1:])
	}
	return drawn
}

// put puts a node into a view; it tells who left it, or -1.
func (p *plain) put(n, view int) int {
	gone := -1
	if !p.room(view) {
		gone = p.pick(p.of(view))
		p.in[gone] = unknown
	}
	p.in[n] = view
	return gone
}

// Words.

func (p *plain) isNumber(n int) bool { return n >= 0 && n < p.c.Nodes }

func (p *plain) isNode(n int) bool { return p.isNumber(n) && n != p.self }

func (p *plain) send(to int, m wire.Message) {
	p.letters = append(p.letters, wire.Letter{To: to, Message: m})
}

func (p *plain) tell(n int, up bool) { p.changes = append(p.changes, overlay.Change{Peer: n, Up: up}) }

func (p *plain) raised(n int) {
	if p.in[n] == active {
		return
	}
	p.in[n] = unknown
	if gone := p.put(n, active); gone >= 0 {
		p.put(gone, passive)
		p.send(gone, wire.Message{Kind: 6})
		p.tell(gone, false)
	}
	p.tell(n, true)
	p.ago[n] = 0
}

func (p *plain) lowered(n int) {
	p.in[n] = unknown
	p.put(n, passive)
	p.tell(n, false)
}

func (p *plain) learnt(n int) {
	if p.isNode(n) && p.in[n] == unknown {
		p.put(n, passive)
	}
}

func (p *plain) heard(n int) {
	if p.in[n] == active {
		p.ago[n] = 0
	}
	p.learnt(n)
}

// Functions.

func (p *plain) join(contact int) api.Errno {
	if !p.isNode(contact) {
		return api.ErrArg
	}
	p.raised(contact)
	p.send(contact, wire.Message{Kind: 1})
	return api.OK
}

func (p *plain) leave() api.Errno {
	for _, n := range p.of(active) {
		p.send(n, wire.Message{Kind: 6})
		p.lowered(n)
	}
	return api.OK
}

func (p *plain) hears(from int) api.Errno {
	if !p.isNode(from) {
		return api.ErrArg
	}
	p.heard(from)
	return api.OK
}

func (p *plain) takes(from int, m wire.Message) api.Errno {
	if !p.isNode(from) {
		return api.ErrArg
	}
	if wire.Good(m) != api.OK || m.Kind < 1 || m.Kind > 9 {
		return api.ErrForm
	}
	for _, n := range append([]int{m.Peer}, m.Peers...) {
		if !p.isNumber(n) {
			return api.ErrForm
		}
	}
	p.heard(from)
	switch m.Kind {
	case 1:
		p.raised(from)
		for _, n := range p.of(active, from) {
			p.send(n, wire.Message{Kind: 2, Peer: from, Hops: p.c.Walk})
		}
	case 2:
		p.forward(from, m)
	case 3:
		if m.High || p.in[from] == active || p.room(active) {
			p.raised(from)
			p.send(from, wire.Message{Kind: 4})
		} else {
			p.send(from, wire.Message{Kind: 5})
		}
	case 4, 5:
		if p.asked == from {
			p.asked = -1
			if m.Kind == 4 {
				p.raised(from)
			}
		}
	case 6:
		if p.in[from] == active {
			p.lowered(from)
		}
	case 7:
		p.shuffle(from, m)
	case 8:
		for _, n := range m.Peers {
			p.learnt(n)
		}
	}
	return api.OK
}

func (p *plain) forward(from int, m wire.Message) {
	others := p.of(active, from, m.Peer)
	switch {
	case m.Peer == p.self:
	case m.Hops == 0 || len(others) == 0:
		if p.in[m.Peer] != active {
			p.raised(m.Peer)
			p.send(m.Peer, wire.Message{Kind: 3, High: true})
		}
	default:
		if m.Hops == p.c.Drop {
			p.learnt(m.Peer)
		}
		p.send(p.pick(others), wire.Message{Kind: 2, Peer: m.Peer, Hops: m.Hops - 1})
	}
}

func (p *plain) shuffle(from int, m wire.Message) {
	others := p.of(active, from, m.Peer)
	switch {
	case m.Peer == p.self:
	case m.Hops != 0 && len(others) > 0:
		p.send(p.pick(others), wire.Message{Kind: 7, Peer: m.Peer, Hops: m.Hops - 1, Peers: slices.Clone(m.Peers)})
	default:
		p.send(m.Peer, wire.Message{Kind: 8, Peers: p.some(p.of(passive, m.Peer), len(m.Peers))})
		p.learnt(m.Peer)
		for _, n := range m.Peers {
			p.learnt(n)
		}
	}
}

func (p *plain) tick() api.Errno {
	p.ticks++
	for _, n := range p.of(active) {
		p.ago[n]++
		if p.ago[n] > p.c.Silence {
			p.lowered(n)
		}
	}
	if p.asked >= 0 {
		p.since++
		if p.since == 4 {
			p.asked = -1
		}
	}
	if p.room(active) && p.asked < 0 && len(p.of(passive)) > 0 {
		p.asked, p.since = p.pick(p.of(passive)), 0
		p.send(p.asked, wire.Message{Kind: 3, High: len(p.of(active)) == 0})
	}
	if p.ticks%p.c.Beat == 0 {
		for _, n := range p.of(active) {
			p.send(n, wire.Message{Kind: 9})
		}
		if l := p.of(active); len(l) > 0 {
			to := p.pick(l)
			p.send(to, wire.Message{Kind: 7, Peer: p.self, Hops: p.c.Walk, Peers: p.some(p.of(passive), p.c.Swap)})
		}
	}
	return api.OK
}

// act is one of those calls that change an overlay.
type act struct {
	name  string
	do    func(o *overlay.Overlay) ([]wire.Letter, []overlay.Change, api.Errno)
	plain func(p *plain) api.Errno
}

func join(contact int) act {
	return act{
		fmt.Sprintf("Join(%d)", contact),
		func(o *overlay.Overlay) ([]wire.Letter, []overlay.Change, api.Errno) { return o.Join(contact) },
		func(p *plain) api.Errno { return p.join(contact) },
	}
}

func heard(from int) act {
	return act{
		fmt.Sprintf("Heard(%d)", from),
		func(o *overlay.Overlay) ([]wire.Letter, []overlay.Change, api.Errno) { return nil, nil, o.Heard(from) },
		func(p *plain) api.Errno { return p.hears(from) },
	}
}

func take(from int, m wire.Message) act {
	return act{
		fmt.Sprintf("Take(%d, %+v)", from, m),
		func(o *overlay.Overlay) ([]wire.Letter, []overlay.Change, api.Errno) { return o.Take(from, m) },
		func(p *plain) api.Errno { return p.takes(from, m) },
	}
}

var leave = act{
	"Leave",
	func(o *overlay.Overlay) ([]wire.Letter, []overlay.Change, api.Errno) {
		l, c := o.Leave()
		return l, c, api.OK
	},
	(*plain).leave,
}

var tick = act{
	"Tick",
	func(o *overlay.Overlay) ([]wire.Letter, []overlay.Change, api.Errno) {
		l, c := o.Tick()
		return l, c, api.OK
	},
	(*plain).tick,
}

// both is an overlay and its dice, with the plain one beside them.
type both struct {
	o *overlay.Overlay
	d *dice.Dice
	p plain
}

// fresh gives the overlay of a node, that knows nobody.
func fresh(t *testing.T, self int, c setup.Config) *both {
	t.Helper()
	d := dice.New()
	o, e := overlay.New(self, c, d)
	if e != api.OK || o == nil {
		t.Fatalf("New(%d, %+v): %d", self, c, e)
	}
	return &both{o, d, plain{self: self, c: c, asked: -1}}
}

// with gives the overlay of a node that has asked somebody (or nobody, -1), to which then those that are named
// first are neighbours, and the others are known; its dice have these numbers.
func with(t *testing.T, self int, c setup.Config, asked int, in, out, numbers []int) *both {
	t.Helper()
	b := fresh(t, self, c)
	if asked >= 0 {
		b.acts(t, "made so", heard(asked))
		b.acts(t, "made so", tick)
	}
	for _, n := range in {
		b.acts(t, "made so", join(n))
	}
	for _, n := range out {
		b.acts(t, "made so", heard(n))
	}
	b.feed(numbers...)
	return b
}

func (b *both) feed(l ...int) {
	b.d.Feed(l...)
	b.p.numbers = slices.Concat(b.p.numbers, l)
}

// acts fails the test where an act answers, or leaves the overlay, otherwise than the plain one; it gives the answers.
func (b *both) acts(t *testing.T, what string, a act) ([]wire.Letter, []overlay.Change, api.Errno) {
	t.Helper()
	b.p.letters, b.p.changes = nil, nil
	was := b.p
	letters, changes, e := a.do(b.o)
	want := a.plain(&b.p)
	if e != want || !sameLetters(letters, b.p.letters) || !slices.Equal(changes, b.p.changes) {
		t.Fatalf("%s: %s at %+v:\n%s, %d; want\n%s, %d", what, a.name, was, text(letters, changes), e, text(b.p.letters, b.p.changes), want)
	}
	b.holds(t, fmt.Sprintf("%s: %s at %+v", what, a.name, was))
	return letters, changes, e
}

func sameLetters(a, b []wire.Letter) bool {
	return slices.EqualFunc(a, b, func(a, b wire.Letter) bool { return a.To == b.To && wire.Same(a.Message, b.Message) })
}

// holds fails the test where an overlay, or what its dice have left, isn't told as the plain one's.
func (b *both) holds(t *testing.T, what string) {
	t.Helper()
	if !slices.Equal(b.o.Active(), b.p.of(active)) || !slices.Equal(b.o.Passive(), b.p.of(passive)) || !slices.Equal(b.o.Known(), b.p.known()) {
		t.Fatalf("%s: %v, %v, %v; want %v, %v", what, b.o.Active(), b.o.Passive(), b.o.Known(), b.p.of(active), b.p.of(passive))
	}
	asked, ok := b.o.Asked()
	if ok != (b.p.asked >= 0) || asked != max(0, b.p.asked) {
		t.Fatalf("%s: asked is %d, %v; want %d", what, asked, ok, b.p.asked)
	}
	if b.d.Left() != len(b.p.numbers) {
		t.Fatalf("%s: %d numbers are left, want %d", what, b.d.Left(), len(b.p.numbers))
	}
}

// next fails the test where the numbers that are left aren't these; all of them are drawn.
func next(t *testing.T, what string, d *dice.Dice, want []int) {
	t.Helper()
	if d.Left() != len(want) {
		t.Fatalf("%s: %d numbers are left, want %v", what, d.Left(), want)
	}
	for _, number := range want {
		if got := d.Draw(math.MaxInt); got != number {
			t.Fatalf("%s: the next number is %d; want of %v", what, got, want)
		}
	}
}

// noSites are numbers that are no node's: those beside the nodes', and what a byte, 32 bits or 64 bits hold.
var noSites = []int{
	math.MinInt, math.MinInt + 1, -1 << 32, -1<<32 + 3, -1 << 31, -256, -12, -3, -2, -1,
	12, 13, 16, 64, 255, 256, 259, 1<<31 - 1, 1 << 31, 1<<32 - 1, 1 << 32, 1<<32 + 3, math.MaxInt - 1, math.MaxInt,
}

// configAtWill draws a configuration that may be: small views are drawn often.
func configAtWill(r *rand.Rand) setup.Config {
	c := config()
	c.Nodes = 2 + r.Intn(11)
	c.Active, c.Passive = 1+r.Intn(3), 1+r.Intn(3)
	if r.Intn(3) == 0 {
		c.Active, c.Passive = 1+r.Intn(6), 1+r.Intn(11)
	}
	c.Walk = 1 + r.Intn(8)
	c.Drop = r.Intn(c.Walk + 1)
	c.Swap = 1 + r.Intn(8)
	c.Beat = 1 + r.Intn(4)
	c.Silence = c.Beat + r.Intn(8)
	return c
}

// numbersAtWill draws numbers for dice.
func numbersAtWill(r *rand.Rand, most int) []int {
	l := make([]int, r.Intn(most+1))
	for i := range l {
		if l[i] = r.Intn(24) - 12; r.Intn(3) == 0 {
			l[i] = int(r.Uint64())
		}
	}
	return l
}

// nodeAtWill draws a number of a node, or, now and then, what is none.
func nodeAtWill(r *rand.Rand, nodes int) int {
	switch r.Intn(30) {
	case 0:
		return noSites[r.Intn(len(noSites))]
	case 1:
		return r.Intn(13) - 1
	}
	return r.Intn(nodes)
}

// messageAtWill draws a message, most often one that may be, of a kind from Join to Beat.
func messageAtWill(r *rand.Rand, nodes int) wire.Message {
	m := wire.Message{Kind: 1 + r.Intn(9)}
	switch m.Kind {
	case wire.Forward:
		m.Peer, m.Hops = nodeAtWill(r, nodes), r.Intn(9)
	case wire.Neighbor:
		m.High = r.Intn(2) == 0
	case wire.Shuffle:
		m.Peer, m.Hops = nodeAtWill(r, nodes), r.Intn(9)*r.Intn(2)
		fallthrough
	case wire.Swap:
		for range r.Intn(9) {
			m.Peers = append(m.Peers, nodeAtWill(r, nodes))
		}
	}
	switch r.Intn(40) {
	case 0:
		m.Kind = r.Intn(24) - 2
	case 1:
		m.Hops = r.Intn(12) - 1
	case 2:
		m.Marks = make([]api.Mark, r.Intn(2))
	case 3:
		m.High = !m.High
	}
	return m
}

// actAtWill draws an act.
func actAtWill(r *rand.Rand, nodes int) act {
	switch r.Intn(12) {
	case 0:
		return join(nodeAtWill(r, nodes))
	case 1:
		return heard(nodeAtWill(r, nodes))
	case 2, 3, 4:
		return tick
	case 5:
		if r.Intn(8) == 0 {
			return leave
		}
		return tick
	}
	return take(nodeAtWill(r, nodes), messageAtWill(r, nodes))
}

// Any acts in any order, with the plain overlay beside them.
func TestAnyActs(t *testing.T) {
	for seed := range 1500 {
		r := rand.New(rand.NewSource(int64(seed)))
		c := configAtWill(r)
		b := fresh(t, r.Intn(c.Nodes), c)
		for i := range 150 {
			if r.Intn(2) == 0 {
				b.feed(numbersAtWill(r, 4)...)
			}
			a := actAtWill(r, c.Nodes)
			if asked, ok := b.o.Asked(); ok && r.Intn(8) == 0 { // who was asked answers more often than others
				a = take(asked, wire.Message{Kind: wire.Accept + r.Intn(2)})
			}
			b.acts(t, fmt.Sprint("seed ", seed, ", act ", i), a)
		}
	}
}

// smallMessages gives messages of all kinds from Join to Beat, of the nodes 0 to 3.
func smallMessages() []wire.Message {
	lists := [][]int{nil, {0}, {1}, {2}, {2, 3}, {3, 2}, {1, 0}, {3, 3}}
	var l []wire.Message
	for kind := wire.Join; kind <= wire.Beat; kind++ {
		switch kind {
		case wire.Neighbor:
			l = append(l, wire.Message{Kind: kind}, wire.Message{Kind: kind, High: true})
		case wire.Swap:
			for _, peers := range lists {
				l = append(l, wire.Message{Kind: kind, Peers: peers})
			}
		case wire.Forward, wire.Shuffle:
			for i := range 16 {
				m := wire.Message{Kind: kind, Peer: i % 4, Hops: i / 4}
				l = append(l, m)
				for _, peers := range lists[1:] {
					if m.Peers = peers; kind == wire.Shuffle && m.Hops < 2 {
						l = append(l, m)
					}
				}
			}
		default:
			l = append(l, wire.Message{Kind: kind})
		}
	}
	return l
}

// smallPlaces gives all ways in which three nodes may be in views.
func smallPlaces(nodes [3]int, places, others int) [][2][]int {
	var l [][2][]int
	for i := range 27 {
		var views [3][]int
		for at, n := range nodes {
			view := i / [3]int{1, 3, 9}[at] % 3
			views[view] = append(views[view], n)
		}
		if len(views[active]) <= places && len(views[passive]) <= others {
			l = append(l, [2][]int{views[active], views[passive]})
		}
	}
	return l
}

// Each small message, from each node, at all views of small sizes, whoever was asked.
func TestEachMessageAtAllSmallViews(t *testing.T) {
	messages := smallMessages()
	for _, k := range [][2]int{{1, 1}, {1, 3}, {2, 1}, {2, 2}} {
		c := config()
		c.Nodes, c.Active, c.Passive, c.Walk, c.Drop = 4, k[0], k[1], 3, 2
		for _, l := range smallPlaces([3]int{0, 2, 3}, k[0], k[1]) {
			for _, asked := range []int{-1, 0, 2, 3} {
				for _, m := range messages {
					for i, from := range []int{0, 2, 3} {
						numbers := [][]int{nil, {1, 0, 1, 1}, {2, 1, 1}}[(i+m.Peer+m.Hops)%3]
						b := with(t, 1, c, asked, l[0], l[1], numbers)
						b.acts(t, "small", take(from, m))
					}
				}
			}
		}
	}
}

// As many ticks as it takes till nothing more comes about, at all views of small sizes, whoever was asked.
func TestTicksAtAllSmallViews(t *testing.T) {
	for _, k := range [][4]int{{1, 1, 1, 1}, {1, 3, 2, 2}, {2, 1, 1, 3}, {2, 2, 3, 5}, {3, 3, 3, 4}} {
		c := config()
		c.Nodes, c.Active, c.Passive, c.Beat, c.Silence = 4, k[0], k[1], k[2], k[3]
		for _, l := range smallPlaces([3]int{0, 1, 2}, k[0], k[1]) {
			for asked := -1; asked < 3; asked++ {
				for _, numbers := range [][]int{nil, {1, 0, 1, 1, 0, 1, 2, 1}, {2, 1, 1, 0, 1, 1, 0, 2, 1, 1, 0}} {
					b := with(t, 3, c, asked, l[0], l[1], numbers)
					for i := range 14 {
						b.acts(t, fmt.Sprint("tick ", i), tick)
					}
				}
			}
		}
	}
}
