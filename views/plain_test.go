package views_test

import (
	"fmt"
	"math"
	"math/rand"
	"slices"
	"testing"

	"quidnunc/api"
	"quidnunc/dice"
	"quidnunc/views"
)

// noSites are numbers that are no node's: those beside the nodes', and what a byte, 32 bits or 64 bits hold.
var noSites = []int{
	math.MinInt, math.MinInt + 1, -1 << 32, -1<<32 + 3, -1 << 31, -256, -12, -11, -3, -2, -1,
	12, 13, 15, 16, 64, 67, 255, 256, 259, 1<<31 - 1, 1 << 31, 1<<32 - 1, 1 << 32, 1<<32 + 3, math.MaxInt - 1, math.MaxInt,
}

// Where a node may be.
const (
	unknown = iota
	active
	passive
)

// plain is views as the document has them: of each node in which view it is, and which numbers the dice have left.
type plain struct {
	self    int
	places  [3]int
	in      [12]int
	numbers []int
}

func (p *plain) of(view int) []int {
	var l []int
	for n := range p.in {
		if p.in[n] == view {
			l = append(l, n)
		}
	}
	return l
}

func (p *plain) known() []int {
	var l []int
	for n := range p.in {
		if p.in[n] != unknown {
			l = append(l, n)
		}
	}
	return l
}

func (p *plain) full(view int) bool { return len(p.of(view)) == p.places[view] }

func (p *plain) is(n, view int) bool { return n >= 0 && n < 12 && p.in[n] == view }

func (p *plain) draw(below int) int {
	if len(p.numbers) == 0 {
		return 0
	}
	first := p.numbers[0]
	p.numbers = p.numbers[1:]
	return (first%below + below) % below
}

// put puts a node into a view; it tells who left it, or -1.
func (p *plain) put(n, view int) int {
	gone := -1
	if p.full(view) {
		gone = p.of(view)[p.draw(p.places[view])]
		p.in[gone] = unknown
	}
	p.in[n] = view
	return gone
}

func (p *plain) raise(n int) (int, bool) {
	if n < 0 || n > 11 || n == p.self || p.in[n] == active {
		return -1, false
	}
	p.in[n] = unknown
	gone := p.put(n, active)
	if gone >= 0 {
		p.put(gone, passive)
	}
	return gone, true
}

func (p *plain) lower(n int) bool {
	if !p.is(n, active) {
		return false
	}
	p.in[n] = unknown
	p.put(n, passive)
	return true
}

func (p *plain) learn(n int) bool {
	if n < 0 || n > 11 || n == p.self || p.in[n] != unknown {
		return false
	}
	p.put(n, passive)
	return true
}

// act is one of those calls that change views; of those that tell nobody it tells -1.
type act struct {
	name  string
	do    func(v *views.Views, n int, d *dice.Dice) (int, bool)
	plain func(p *plain, n int) (int, bool)
}

var raise = act{"Raise", (*views.Views).Raise, (*plain).raise}

var lower = act{
	"Lower",
	func(v *views.Views, n int, d *dice.Dice) (int, bool) { return -1, v.Lower(n, d) },
	func(p *plain, n int) (int, bool) { return -1, p.lower(n) },
}

var learn = act{
	"Learn",
	func(v *views.Views, n int, d *dice.Dice) (int, bool) { return -1, v.Learn(n, d) },
	func(p *plain, n int) (int, bool) { return -1, p.learn(n) },
}

var acts = []act{raise, lower, learn}

// both is views and dice, with the plain ones beside them.
type both struct {
	v *views.Views
	d *dice.Dice
	p plain
}

// with gives views of a node that have so many places, in which these nodes are, and dice with these numbers.
func with(t *testing.T, self, places, others int, in, out, numbers []int) *both {
	t.Helper()
	v, e := views.New(self, places, others)
	if e != api.OK || v == nil {
		t.Fatalf("New(%d, %d, %d): %d", self, places, others, e)
	}
	b := &both{v, dice.New(), plain{self: self, places: [3]int{0, places, others}}}
	for _, n := range in {
		b.acts(t, "made so", raise, n)
	}
	for _, n := range out {
		b.acts(t, "made so", learn, n)
	}
	b.feed(numbers...)
	return b
}

func (b *both) feed(l ...int) {
	b.d.Feed(l...)
	b.p.numbers = slices.Concat(b.p.numbers, l)
}

// acts fails the test where an act answers, or draws, otherwise than the plain one; it gives the answers.
func (b *both) acts(t *testing.T, what string, a act, n int) (int, bool) {
	t.Helper()
	gone, ok := a.do(b.v, n, b.d)
	want, wantOK := a.plain(&b.p, n)
	if gone != want || ok != wantOK {
		t.Fatalf("%s: %s(%d): %d, %v; want %d, %v", what, a.name, n, gone, ok, want, wantOK)
	}
	if b.d.Left() != len(b.p.numbers) {
		t.Fatalf("%s: %s(%d): %d numbers are left, want %d", what, a.name, n, b.d.Left(), len(b.p.numbers))
	}
	return gone, ok
}

// holds fails the test where views tell otherwise than the plain ones.
func (b *both) holds(t *testing.T, what string) {
	t.Helper()
	tells(t, what, b.v, b.p.of(active), b.p.of(passive))
	if b.v.Self() != b.p.self {
		t.Fatalf("%s: Self: %d, want %d", what, b.v.Self(), b.p.self)
	}
	if b.v.Full() != b.p.full(active) {
		t.Fatalf("%s: Full: %v, of %v", what, b.v.Full(), b.v.Active())
	}
	for n := -2; n < 14; n++ {
		if b.v.IsActive(n) != b.p.is(n, active) || b.v.IsPassive(n) != b.p.is(n, passive) {
			t.Fatalf("%s: %d is active: %v, passive: %v; of %v, %v", what, n, b.v.IsActive(n), b.v.IsPassive(n), b.v.Active(), b.v.Passive())
		}
	}
}

// tells fails the test where others are in the views, or they are told in another order.
func tells(t *testing.T, what string, v *views.Views, in, out []int) {
	t.Helper()
	if got := v.Active(); !slices.Equal(got, in) {
		t.Fatalf("%s: Active: %v, want %v", what, got, in)
	}
	if got := v.Passive(); !slices.Equal(got, out) {
		t.Fatalf("%s: Passive: %v, want %v", what, got, out)
	}
	all := slices.Concat(in, out)
	slices.Sort(all)
	if got := v.Known(); !slices.Equal(got, all) {
		t.Fatalf("%s: Known: %v, want %v", what, got, all)
	}
}

// next fails the test where the numbers that are left aren't these; all of them are drawn.
func next(t *testing.T, what string, d *dice.Dice, want ...int) {
	t.Helper()
	if d.Left() != len(want) {
		t.Fatalf("%s: %d numbers are left, want %v", what, d.Left(), want)
	}
	for _, number := range want {
		if got := d.Draw(math.MaxInt); got != number {
			t.Fatalf("%s: the next number is %d; want of %v", what, got, want)
		}
	}
}

// others gives all nodes but one.
func others(self int) []int {
	var l []int
	for n := range 12 {
		if n != self {
			l = append(l, n)
		}
	}
	return l
}

// numbersAtWill draws numbers of all kinds for dice.
func numbersAtWill(r *rand.Rand, most int) []int {
	l := make([]int, r.Intn(most+1))
	for i := range l {
		switch r.Intn(3) {
		case 0:
			l[i] = r.Intn(24) - 12
		case 1:
			l[i] = int(r.Uint64())
		default:
			l[i] = noSites[r.Intn(len(noSites))]
		}
	}
	return l
}

// nodeAtWill draws a node, or, now and then, what is none.
func nodeAtWill(r *rand.Rand) int {
	if r.Intn(12) == 0 {
		return noSites[r.Intn(len(noSites))]
	}
	return r.Intn(12)
}

// Any acts in any order, with the plain views beside them.
func TestAnyActs(t *testing.T) {
	for seed := range 1500 {
		r := rand.New(rand.NewSource(int64(seed)))
		b := with(t, r.Intn(12), 1+r.Intn(11), 1+r.Intn(11), nil, nil, nil)
		if r.Intn(2) == 0 { // such as are full soon
			b = with(t, r.Intn(12), 1+r.Intn(3), 1+r.Intn(3), nil, nil, nil)
		}
		for i := range 80 {
			what := fmt.Sprint("seed ", seed, ", act ", i)
			if r.Intn(3) == 0 {
				b.feed(numbersAtWill(r, 4)...)
			}
			b.acts(t, what, acts[r.Intn(3)], nodeAtWill(r))
			b.holds(t, what)
		}
	}
}

// Each act, of each node, at all views of one node that have one or two places, with all draws that there are.
func TestEachActAtAllSmallViews(t *testing.T) {
	const self = 4
	sets := func(most int) [][]int {
		l := [][]int{nil}
		for _, n := range others(self) {
			l = append(l, []int{n})
			for m := n + 1; most > 1 && m < 12; m++ {
				if m != self {
					l = append(l, []int{n, m})
				}
			}
		}
		return l
	}
	for _, k := range [][2]int{{1, 1}, {1, 2}, {2, 1}, {2, 2}} {
		for _, in := range sets(k[0]) {
			for _, out := range sets(k[1]) {
				if slices.ContainsFunc(in, func(n int) bool { return slices.Contains(out, n) }) {
					continue
				}
				eachAct(t, self, k, in, out)
			}
		}
	}
}

func eachAct(t *testing.T, self int, places [2]int, in, out []int) {
	t.Helper()
	for _, numbers := range [][]int{nil, {1}, {0, 0, 7}, {1, 0, 7}, {0, 1, 7}, {1, 1, 7}} {
		for _, a := range acts {
			for n := -1; n < 13; n++ {
				b := with(t, self, places[0], places[1], in, out, numbers)
				what := fmt.Sprint(a.name, " ", n, " of ", places, in, out, numbers)
				b.acts(t, what, a, n)
				b.holds(t, what)
			}
		}
	}
}
