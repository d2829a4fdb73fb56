package dice_test

import (
	"fmt"
	"math"
	"math/big"
	"math/rand"
	"slices"
	"testing"

	"quidnunc/dice"
)

// numbers are ones to draw, and to draw below: around 0, around what a byte or 32 bits hold, and the ends.
var numbers = []int{
	math.MinInt, math.MinInt + 1, -1<<62 - 1, -1 << 32, -1<<31 - 1, -1 << 31, -256, -13, -9, -8, -7, -3, -2, -1,
	0, 1, 2, 3, 4, 5, 7, 8, 9, 12, 13, 255, 256, 1<<31 - 1, 1 << 31, 1<<32 - 1, 1 << 32, 1<<32 + 1, 1 << 62,
	math.MaxInt - 1, math.MaxInt,
}

// below1 are what nothing is drawn below.
var below1 = []int{math.MinInt, math.MinInt + 1, -1 << 32, -1 << 31, -3, -2, -1, 0}

// beyond are more than there ever is.
var beyond = []int{1000, 1<<31 - 1, 1 << 31, 1<<32 - 1, 1 << 32, 1<<32 + 1, 1<<32 + 2, 1 << 62, math.MaxInt - 1, math.MaxInt}

// left reckons what is left of a number that is divided, as a number of any length.
func left(number, n int) int {
	return int(new(big.Int).Mod(big.NewInt(int64(number)), big.NewInt(int64(n))).Int64())
}

// plain is dice as the document has them: all numbers that ever were, and how many are taken.
type plain struct {
	all   []int
	taken int
}

func (p *plain) feed(l ...int) { p.all = append(slices.Clone(p.all), l...) }

func (p *plain) left() int { return len(p.all) - p.taken }

func (p *plain) draw(n int) int {
	if n < 1 || p.taken == len(p.all) {
		return 0
	}
	p.taken++
	return left(p.all[p.taken-1], n)
}

func (p *plain) pick(l []int) (int, bool) {
	if len(l) == 0 {
		return 0, false
	}
	return l[p.draw(len(l))], true
}

// some strikes out what is drawn, and counts places among what isn't struck out.
func (p *plain) some(l []int, k int) []int {
	struck := make([]bool, len(l))
	var drawn []int
	for len(drawn) < k && len(drawn) < len(l) {
		place := p.draw(len(l) - len(drawn))
		for i := range l {
			if struck[i] {
				continue
			}
			if place == 0 {
				struck[i] = true
				drawn = append(drawn, l[i])
				break
			}
			place--
		}
	}
	return drawn
}

// with gives dice with these numbers, and what they should tell.
func with(l ...int) (*dice.Dice, *plain) {
	return dice.New(l...), &plain{all: slices.Clone(l)}
}

// leaves fails the test where not so many numbers are left.
func leaves(t *testing.T, what string, d *dice.Dice, want int) {
	t.Helper()
	if got := d.Left(); got != want {
		t.Fatalf("%s: %d left, want %d", what, got, want)
	}
}

// draws fails the test where another number is drawn.
func draws(t *testing.T, what string, d *dice.Dice, n, want int) {
	t.Helper()
	if got := d.Draw(n); got != want {
		t.Fatalf("%s: Draw(%d): %d, want %d", what, n, got, want)
	}
}

// picks fails the test where another element is picked, or one of none, or what is handed in is changed.
func picks(t *testing.T, what string, d *dice.Dice, l []int, want int, ok bool) {
	t.Helper()
	was := slices.Clone(l)
	if got, there := d.Pick(l); got != want || there != ok {
		t.Fatalf("%s: Pick of %v: %d, %v; want %d, %v", what, was, got, there, want, ok)
	}
	if !slices.Equal(l, was) {
		t.Fatalf("%s: Pick of %v changed it to %v", what, was, l)
	}
}

// tells fails the test where Some tells others, or others' order, or what is handed in is changed.
func tells(t *testing.T, what string, d *dice.Dice, l []int, k int, want ...int) {
	t.Helper()
	was := slices.Clone(l)
	if got := d.Some(l, k); !slices.Equal(got, want) {
		t.Fatalf("%s: Some of %v, %d: %v, want %v", what, was, k, got, want)
	}
	if !slices.Equal(l, was) {
		t.Fatalf("%s: Some of %v, %d changed it to %v", what, was, k, l)
	}
}

// next fails the test where the numbers that are left aren't these, in this order: it draws all of them, so
// that each shows whole, or, if it is below 0, by what it lacks to the greatest number.
func next(t *testing.T, what string, d *dice.Dice, want ...int) {
	t.Helper()
	leaves(t, what, d, len(want))
	for i, number := range want {
		draws(t, fmt.Sprint(what, ", number ", i), d, math.MaxInt, left(number, math.MaxInt))
	}
	leaves(t, what, d, 0)
}

// few draws a list of small numbers, that may be the same.
func few(r *rand.Rand, most int) []int {
	l := make([]int, r.Intn(most+1))
	for i := range l {
		l[i] = r.Intn(15)
	}
	return l
}

// ofAllKinds draws numbers of all kinds.
func ofAllKinds(r *rand.Rand, most int) []int {
	l := make([]int, r.Intn(most+1))
	for i := range l {
		switch r.Intn(3) {
		case 0:
			l[i] = numbers[r.Intn(len(numbers))]
		case 1:
			l[i] = r.Intn(40) - 20
		default:
			l[i] = int(r.Uint64())
		}
	}
	return l
}

// P14.1: the example, and New, Feed, Left.

func TestTheExample(t *testing.T) {
	d := dice.New(7, 1)
	leaves(t, "New", d, 2)
	draws(t, "the first", d, 4, 3)
	leaves(t, "then", d, 1)
	tells(t, "then", d, []int{5, 6, 7}, 2, 6, 5)
	leaves(t, "at the end", d, 0)
}

func TestNew(t *testing.T) {
	next(t, "none", dice.New())
	next(t, "a nil list", dice.New([]int(nil)...))
	next(t, "an empty list", dice.New([]int{}...))
	next(t, "one", dice.New(5), 5)
	next(t, "the same ones", dice.New(5, 5, 5), 5, 5, 5)
	next(t, "in no order", dice.New(9, 1, 8, 2, -3, 0), 9, 1, 8, 2, -3, 0)
	next(t, "of all kinds", dice.New(numbers...), numbers...)
}

func TestLeft(t *testing.T) {
	for n := range 40 {
		d := dice.New(make([]int, n)...)
		for k := n; k > 0; k-- {
			leaves(t, fmt.Sprint("of ", n), d, k)
			leaves(t, fmt.Sprint("asked again, of ", n), d, k)
			d.Draw(k)
		}
		leaves(t, fmt.Sprint("all drawn, of ", n), d, 0)
		d.Draw(9)
		leaves(t, fmt.Sprint("drawn on, of ", n), d, 0)
	}
}

func TestFeed(t *testing.T) {
	d := dice.New(1, 2)
	d.Feed(3)
	d.Feed(4, 5)
	next(t, "behind all others", d, 1, 2, 3, 4, 5)

	d.Feed(6)
	next(t, "behind draws that took all", d, 6)

	d.Feed(7, 8, 9)
	draws(t, "some", d, 100, 7)
	d.Feed(1)
	draws(t, "one later", d, 100, 8)
	d.Feed(-2, 3)
	next(t, "behind draws that took some", d, 9, 1, -2, 3)

	d = dice.New()
	d.Feed(4, 2)
	next(t, "where there were none", d, 4, 2)
}

func TestFeedOfNone(t *testing.T) {
	d := dice.New(1, 2)
	d.Feed()
	d.Feed([]int(nil)...)
	leaves(t, "fed none", d, 2)
	draws(t, "fed none", d, 100, 1)
	d.Feed([]int{}...)
	next(t, "fed none again", d, 2)
	d.Feed()
	leaves(t, "fed none behind all", d, 0)
	draws(t, "fed none behind all", d, 100, 0)
}

// Numbers are drawn in the order in which they came, however they came, and whatever was drawn meanwhile.
func TestHoweverNumbersCome(t *testing.T) {
	for seed := range 300 {
		r := rand.New(rand.NewSource(int64(seed)))
		l := ofAllKinds(r, 60)
		cut := r.Intn(len(l) + 1)
		d, fed, drawn := dice.New(l[:cut]...), cut, 0
		for drawn < len(l) {
			if end := fed + r.Intn(len(l)-fed+1); r.Intn(2) == 0 {
				d.Feed(l[fed:end]...)
				fed = end
			}
			for range r.Intn(fed - drawn + 1) {
				draws(t, fmt.Sprint("seed ", seed), d, math.MaxInt, left(l[drawn], math.MaxInt))
				drawn++
			}
			leaves(t, fmt.Sprint("seed ", seed), d, fed-drawn)
		}
	}
}

func TestVeryManyNumbers(t *testing.T) {
	const many = 300000
	d := dice.New()
	for i := range many {
		d.Feed(i)
	}
	leaves(t, "one by one", d, many)
	for i := range many / 2 {
		draws(t, "of many", d, many, i)
		d.Feed(many+2*i, many+2*i+1)
	}
	leaves(t, "fed on", d, many+many/2)
	for i := many / 2; d.Left() > 0; i++ {
		draws(t, "to the end", d, 1<<40, i)
	}
}

// P14.1: Draw.

func TestDraw(t *testing.T) {
	for _, k := range []struct{ number, n, want int }{
		{7, 4, 3},
		{1, 3, 1},
		{0, 4, 0},
		{3, 4, 3},
		{4, 4, 0},
		{5, 4, 1},
		{5, 1, 0},
		{-5, 1, 0},
		{-1, 4, 3}, // not -1, and not 1
		{-3, 4, 1},
		{-4, 4, 0},
		{-5, 4, 3},
		{-9, 9, 0},
		{-1, 2, 1},
		{1 << 32, 7, 4}, // not as a number of 32 bits
		{-1 << 32, 7, 3},
		{math.MaxInt, 10, 7},
		{math.MinInt, 10, 2},
		{math.MinInt, 1, 0},
		{math.MinInt, 2, 0},
		{math.MinInt + 1, 2, 1},
		{math.MaxInt, math.MaxInt, 0},
		{math.MaxInt - 1, math.MaxInt, math.MaxInt - 1},
		{-1, math.MaxInt, math.MaxInt - 1},
		{math.MinInt, math.MaxInt, math.MaxInt - 1},
		{math.MinInt + 1, math.MaxInt, 0},
		{math.MinInt + 2, math.MaxInt, 1},
		{0, math.MaxInt, 0},
	} {
		d := dice.New(k.number, 6)
		draws(t, fmt.Sprint("of ", k.number), d, k.n, k.want)
		next(t, fmt.Sprint("behind ", k.number), d, 6)
	}
}

func TestDrawOfAllKinds(t *testing.T) {
	for _, n := range numbers {
		if n < 1 {
			continue
		}
		d := dice.New(numbers...)
		for i, number := range numbers {
			draws(t, fmt.Sprint("of ", number), d, n, left(number, n))
			leaves(t, fmt.Sprint("behind ", number), d, len(numbers)-i-1)
		}
	}
}

// A draw below 1 takes nothing, whatever stands first; that below 1 itself isn't one: it takes a number.
func TestDrawBelow1TakesNothing(t *testing.T) {
	for _, number := range numbers {
		d := dice.New(number, 5)
		for _, n := range below1 {
			draws(t, fmt.Sprint("of ", number), d, n, 0)
			leaves(t, fmt.Sprint("of ", number, ", below ", n), d, 2)
		}
		draws(t, fmt.Sprint("of ", number), d, 1, 0)
		next(t, fmt.Sprint("behind ", number), d, 5)
	}
}

func TestNoNumberIsLeft(t *testing.T) {
	d := dice.New()
	for range 2 {
		for _, n := range slices.Concat(numbers, below1) {
			draws(t, "none left", d, n, 0)
			leaves(t, fmt.Sprint("none left, below ", n), d, 0)
		}
		d.Feed(8)
		draws(t, "the last one", d, 9, 8) // what was asked meanwhile took nothing of it
	}
}

// P14.1: Pick.

func TestPick(t *testing.T) {
	for _, k := range []struct {
		number int
		l      []int
		want   int
	}{
		{2, []int{4, 5, 6}, 6},
		{3, []int{4, 5, 6}, 4},
		{-1, []int{4, 5, 6}, 6},
		{-2, []int{4, 5, 6}, 5},
		{1, []int{6, 4, 5}, 4}, // by the place, not by the order of what is there
		{1, []int{0, 0, 3}, 0},
		{5, []int{9, 9, 9, 9}, 9},
		{1, []int{math.MaxInt, math.MinInt}, math.MinInt},
		{math.MinInt, []int{10, 11, 12, 13, 14, 15, 16, 17, 18, 19}, 12},
		{math.MaxInt, []int{10, 11, 12, 13, 14, 15, 16, 17, 18, 19}, 17},
	} {
		d := dice.New(k.number, 6)
		picks(t, fmt.Sprint("by ", k.number), d, k.l, k.want, true)
		next(t, fmt.Sprint("behind ", k.number), d, 6)
	}
}

func TestPickOfNone(t *testing.T) {
	d := dice.New(7, 8)
	picks(t, "nil", d, nil, 0, false)
	picks(t, "none", d, []int{}, 0, false)
	picks(t, "none of a list", d, []int{1, 2, 3}[:0], 0, false)
	next(t, "takes nothing", d, 7, 8)
	picks(t, "no number is left", d, nil, 0, false)
}

func TestPickOfOne(t *testing.T) {
	for _, number := range numbers {
		for _, one := range numbers {
			d := dice.New(number, 6)
			picks(t, fmt.Sprint("by ", number), d, []int{one}, one, true)
			next(t, fmt.Sprint("behind ", number), d, 6) // it takes a number, though there is no choice
			picks(t, "no number is left", d, []int{one}, one, true)
		}
	}
}

func TestPickWithoutANumber(t *testing.T) {
	d := dice.New(1)
	picks(t, "the last one", d, []int{4, 5, 6}, 5, true)
	picks(t, "no number is left", d, []int{4, 5, 6}, 4, true)
	picks(t, "no number is left", d, []int{-3, 5, 6}, -3, true)
	leaves(t, "no number is left", d, 0)
}

// P14.1: Some.

func TestSome(t *testing.T) {
	for _, k := range []struct {
		numbers []int
		l       []int
		k       int
		want    []int
		rest    []int
	}{
		{[]int{1, 9}, []int{5, 6, 7}, 1, []int{6}, []int{9}},
		{[]int{1, 0, 9}, []int{5, 6, 7}, 2, []int{6, 5}, []int{9}},
		{[]int{1, 1, 9}, []int{5, 6, 7}, 2, []int{6, 7}, []int{9}},
		{[]int{0, 0, 0, 9}, []int{5, 6, 7}, 3, []int{5, 6, 7}, []int{9}},
		{[]int{2, 1, 0, 9}, []int{5, 6, 7}, 3, []int{7, 6, 5}, []int{9}},
		{[]int{2, 2, 2, 9}, []int{5, 6, 7}, 3, []int{7, 5, 6}, []int{9}}, // the last is drawn below 1: it takes its number
		{[]int{-1, -1, -1, 9}, []int{5, 6, 7}, 3, []int{7, 6, 5}, []int{9}},
		{[]int{2, 0, 0, 9}, []int{7, 5, 6}, 3, []int{6, 7, 5}, []int{9}},          // what is left keeps its order
		{[]int{1, 2, 9}, []int{5, 6, 7, 8, 9}, 2, []int{6, 8}, []int{9}},          // 6 is taken out ahead of the next place
		{[]int{3, 0, 0, 0, 9}, []int{8, 6, 4, 2}, 4, []int{2, 8, 6, 4}, []int{9}}, // not that the last one stands in its place
		{[]int{0, 2, 0, 0, 9}, []int{8, 6, 4, 2}, 4, []int{8, 2, 6, 4}, []int{9}}, // nor the first one
		{[]int{1, 1, 1, 1, 9}, []int{8, 6, 4, 2}, 4, []int{6, 4, 2, 8}, []int{9}}, // drawn in this order, not in the list's
		{[]int{1, 1, 9}, []int{5, 6, 5, 6}, 2, []int{6, 5}, []int{9}},             // by places: the other 6 is there still
		{[]int{2, 1, 1, 9}, []int{5, 5, 5, 6}, 3, []int{5, 5, 6}, []int{9}},       // each of those that are the same is one
		{[]int{0, 3, 1, 9}, []int{4, 4, 4}, 3, []int{4, 4, 4}, []int{9}},          // all of them are
		{[]int{1, 9}, []int{math.MinInt, math.MaxInt, 0}, 1, []int{math.MaxInt}, []int{9}},
	} {
		what := fmt.Sprint("by ", k.numbers)
		d := dice.New(k.numbers...)
		tells(t, what, d, k.l, k.k, k.want...)
		next(t, what, d, k.rest...)
	}
}

func TestSomeOfNoneTakesNothing(t *testing.T) {
	d := dice.New(7, 8)
	for _, k := range slices.Concat(numbers, beyond, below1) {
		tells(t, "nil", d, nil, k)
		tells(t, "none", d, []int{}, k)
		tells(t, "none of a list", d, []int{1, 2, 3}[:0], k)
		leaves(t, "none", d, 2)
	}
	next(t, "takes nothing", d, 7, 8)
}

func TestSomeOfFewerThanOneTakesNothing(t *testing.T) {
	d := dice.New(7, 8)
	for _, k := range below1 {
		tells(t, "fewer than one", d, []int{5}, k)
		tells(t, "fewer than one", d, []int{5, 6, 7}, k)
		leaves(t, "fewer than one", d, 2)
	}
	next(t, "takes nothing", d, 7, 8)
	tells(t, "no number is left", d, []int{5, 6, 7}, -1)
}

// More than there are are as many as there are, and take as many numbers.
func TestSomeOfMoreThanThereAre(t *testing.T) {
	l := []int{5, 6, 7}
	for _, k := range slices.Concat([]int{3, 4, 5}, beyond) {
		d := dice.New(2, 0, 5, 11, 12)
		tells(t, "more", d, l, k, 7, 5, 6)
		next(t, "behind more", d, 11, 12)
		tells(t, "more, and no number is left", d, l, k, l...)
		d.Feed(-5, 3)
		tells(t, "more of one", d, l[:1], k, 5)
		next(t, "behind more of one", d, 3)
	}
}

// Where the numbers end within Some, each next place is 0.
func TestNumbersEndWithinSome(t *testing.T) {
	l := []int{5, 6, 7, 8, 9}
	for n, want := range [][]int{{5, 6, 7, 8, 9}, {9, 5, 6, 7, 8}, {9, 8, 5, 6, 7}, {9, 8, 7, 5, 6}, {9, 8, 7, 6, 5}, {9, 8, 7, 6, 5}} {
		for k := range 8 {
			d := dice.New([]int{-1, -1, -1, -1, -1}[:min(n, 5)]...)
			tells(t, fmt.Sprint(n, " numbers"), d, l, k, want[:min(k, 5)]...)
			leaves(t, fmt.Sprint(n, " numbers"), d, max(0, min(n, 5)-k))
		}
	}
}

// Some of one is what Pick tells, if there is one.
func TestSomeOfOneIsPick(t *testing.T) {
	r := rand.New(rand.NewSource(1))
	for range 500 {
		l, fed := ofAllKinds(r, 9), ofAllKinds(r, 2)
		one, ok := dice.New(fed...).Pick(l)
		d := dice.New(fed...)
		if ok {
			tells(t, "one", d, l, 1, one)
			leaves(t, "one", d, max(0, len(fed)-1))
		} else {
			tells(t, "one of none", d, l, 1)
			leaves(t, "one of none", d, len(fed))
		}
	}
}

func TestSomeOfVeryMany(t *testing.T) {
	l := make([]int, 200000)
	for i := range l {
		l[i] = i * 3
	}
	tells(t, "without a number", dice.New(), l, math.MaxInt, l...)
	tells(t, "by few", dice.New(2, 0, 0), l, 5, 6, 0, 3, 9, 12)
	r := rand.New(rand.NewSource(2))
	d, p := with(ofAllKinds(r, 3000)...)
	tells(t, "by many", d, l[:3000], 2500, p.some(l[:3000], 2500)...)
	leaves(t, "by many", d, p.left())
}

// Any calls in any order, with the plain dice beside them.
func TestAnyCalls(t *testing.T) {
	for seed := range 400 {
		r := rand.New(rand.NewSource(int64(seed)))
		d, p := with(ofAllKinds(r, 20)...)
		for i := range 60 {
			what := fmt.Sprint("seed ", seed, ", call ", i)
			k := r.Intn(16) - 2
			if r.Intn(8) == 0 {
				k = numbers[r.Intn(len(numbers))]
			}
			switch r.Intn(6) {
			case 0:
				l := ofAllKinds(r, 12)
				d.Feed(l...)
				p.feed(l...)
			case 1, 2:
				draws(t, what, d, k, p.draw(k))
			case 3:
				l := few(r, 12)
				want, ok := p.pick(l)
				picks(t, what, d, l, want, ok)
			default:
				l := few(r, 12)
				tells(t, what, d, l, k, p.some(l, k)...)
			}
			leaves(t, what, d, p.left())
		}
		next(t, fmt.Sprint("seed ", seed), d, p.all[p.taken:]...)
	}
}
