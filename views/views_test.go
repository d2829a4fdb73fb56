package views_test

import (
	"fmt"
	"math"
	"slices"
	"testing"

	"quidnunc/api"
	"quidnunc/dice"
	"quidnunc/views"
)

func TestTheExample(t *testing.T) {
	v, e := views.New(0, 1, 2)
	if e != api.OK {
		t.Fatal(e)
	}
	d := dice.New()
	if gone, ok := v.Raise(1, d); gone != -1 || !ok {
		t.Fatal(gone, ok)
	}
	if gone, ok := v.Raise(2, d); gone != 1 || !ok {
		t.Fatal(gone, ok)
	}
	tells(t, "at the end", v, []int{2}, []int{1})
}

// P15.1: New.

func TestNew(t *testing.T) {
	for self := range 12 {
		for in := 1; in < 12; in++ {
			for out := 1; out < 12; out++ {
				b := with(t, self, in, out, nil, nil, nil)
				b.holds(t, fmt.Sprint("New ", self, in, out))
			}
		}
	}
}

// What is wrong alone is wrong with others, too, whichever it is.
func TestNewOfWhatMayNotBe(t *testing.T) {
	wrong := func(n, least int) bool { return n < least || n > 11 }
	tried := slices.Concat(noSites, []int{0, 1, 6, 11})
	for _, self := range tried {
		for _, in := range tried {
			for _, out := range tried {
				v, e := views.New(self, in, out)
				if wrong(self, 0) || wrong(in, 1) || wrong(out, 1) {
					if e != api.ErrArg || v != nil {
						t.Fatal(self, in, out, e)
					}
				} else if e != api.OK || v == nil {
					t.Fatal(self, in, out, e)
				}
			}
		}
	}
	for _, k := range [][3]int{{-1, 1, 1}, {12, 1, 1}, {0, 0, 1}, {0, 12, 1}, {11, 1, 0}, {11, 1, 12}, {12, 0, 12}, {-1, 12, 0}} {
		if v, e := views.New(k[0], k[1], k[2]); e != api.ErrArg || v != nil {
			t.Fatal(k, e)
		}
	}
}

// P15.1: what is told.

func TestNobodyInAnyView(t *testing.T) {
	for _, places := range [][2]int{{1, 1}, {11, 11}, {1, 11}, {11, 1}} {
		v, e := views.New(2, places[0], places[1])
		if e != api.OK {
			t.Fatal(e)
		}
		tells(t, "nobody", v, nil, nil)
		if v.Full() || v.Self() != 2 {
			t.Fatal(places, v.Full(), v.Self())
		}
		for n := range 12 {
			if v.IsActive(n) || v.IsPassive(n) {
				t.Fatal(places, n)
			}
		}
	}
}

func TestSelf(t *testing.T) {
	for self := range 12 {
		b := with(t, self, 3, 3, nil, nil, nil)
		for _, n := range others(self) {
			b.acts(t, "acts", raise, n)
			b.acts(t, "acts", learn, (n+3)%12)
			if b.v.Self() != self || b.v.IsActive(self) || b.v.IsPassive(self) {
				t.Fatal(self, n, b.v.Self(), b.v.Known())
			}
		}
	}
}

// However nodes come, they are told rising.
func TestRising(t *testing.T) {
	for _, k := range []struct{ in, out []int }{
		{[]int{0, 1, 2}, []int{4, 5, 6}},
		{[]int{11, 10, 9}, []int{8, 7, 0}},
		{[]int{7, 0, 11}, []int{9, 10, 8}},
		{[]int{9, 2, 6, 0}, []int{10, 4, 7, 1, 11, 5, 8}},
		{[]int{2, 10, 4, 9, 5, 11, 0, 8, 1, 6, 7}, nil},
		{nil, []int{6, 2, 10, 11, 4, 9, 5, 0, 8, 7, 1}},
		{[]int{5}, []int{11, 0}},
	} {
		b := with(t, 3, 11, 11, k.in, k.out, nil)
		in, out := slices.Clone(k.in), slices.Clone(k.out)
		slices.Sort(in)
		slices.Sort(out)
		tells(t, "at once", b.v, in, out)
		b.holds(t, "at once")
	}
}

func TestIsActiveAndIsPassive(t *testing.T) {
	v := with(t, 3, 4, 4, []int{0, 7, 11}, []int{1, 10}, nil).v
	for n := range 12 {
		if v.IsActive(n) != (n == 0 || n == 7 || n == 11) || v.IsPassive(n) != (n == 1 || n == 10) {
			t.Fatal(n, v.IsActive(n), v.IsPassive(n))
		}
	}
	all := with(t, 3, 11, 11, others(3), nil, nil).v
	none := with(t, 3, 11, 11, nil, others(3), nil).v
	for _, n := range append(slices.Clone(noSites), 3) {
		if v.IsActive(n) || all.IsActive(n) || none.IsActive(n) {
			t.Fatal("active: ", n)
		}
		if v.IsPassive(n) || all.IsPassive(n) || none.IsPassive(n) {
			t.Fatal("passive: ", n)
		}
	}
}

// Full speaks of the active view alone, however many the passive one has.
func TestFull(t *testing.T) {
	for places := 1; places < 12; places++ {
		b := with(t, 11, places, 11, nil, nil, nil)
		for n := range 11 {
			if b.v.Full() != (n >= places) {
				t.Fatal(places, n, b.v.Full())
			}
			b.acts(t, "one more", raise, n)
		}
		if !b.v.Full() {
			t.Fatal(places)
		}
		b.acts(t, "one gives way", lower, b.v.Active()[0])
		if b.v.Full() {
			t.Fatal(places, b.v.Active())
		}
		b = with(t, 11, places, 1, nil, []int{3}, nil)
		if b.v.Full() {
			t.Fatal(places, "the passive view is full, not the active one")
		}
	}
}

// P15.2: each row is views of 3, of so many places, with who is in them, and what comes of an act.
type row struct {
	places, others int
	in, out        []int
	numbers        []int
	n              int
	gone           int
	wantIn         []int
	wantOut        []int
	rest           []int
}

func (k row) holds(t *testing.T, a act) {
	t.Helper()
	what := fmt.Sprintf("%s %+v", a.name, k)
	b := with(t, 3, k.places, k.others, k.in, k.out, k.numbers)
	gone, ok := a.do(b.v, k.n, b.d)
	if gone != k.gone || !ok {
		t.Fatalf("%s: %d, %v", what, gone, ok)
	}
	tells(t, what, b.v, k.wantIn, k.wantOut)
	next(t, what, b.d, k.rest...)
}

func TestRaise(t *testing.T) {
	for _, k := range []row{
		// there is room: nothing is drawn
		{1, 1, nil, nil, []int{8, 9}, 0, -1, []int{0}, nil, []int{8, 9}},
		{2, 1, []int{5}, nil, []int{8, 9}, 11, -1, []int{5, 11}, nil, []int{8, 9}},
		{2, 1, []int{5}, []int{6}, []int{8, 9}, 4, -1, []int{4, 5}, []int{6}, []int{8, 9}},
		{2, 1, []int{5}, []int{6}, []int{8, 9}, 6, -1, []int{5, 6}, nil, []int{8, 9}},
		{2, 3, []int{5}, []int{6, 0, 8}, []int{8, 9}, 6, -1, []int{5, 6}, []int{0, 8}, []int{8, 9}},
		// one has to give way, and has room in the passive view
		{1, 1, []int{5}, nil, []int{8, 9}, 6, 5, []int{6}, []int{5}, []int{9}},
		{2, 2, []int{5, 7}, []int{9}, []int{0, 9}, 6, 5, []int{6, 7}, []int{5, 9}, []int{9}},
		{2, 2, []int{5, 7}, []int{9}, []int{1, 9}, 6, 7, []int{5, 6}, []int{7, 9}, []int{9}},
		{2, 2, []int{7, 5}, []int{9}, []int{0, 9}, 6, 5, []int{6, 7}, []int{5, 9}, []int{9}}, // drawn of those that rise
		{3, 2, []int{11, 1, 10}, nil, []int{2, 9}, 0, 11, []int{0, 1, 10}, []int{11}, []int{9}},
		{3, 2, []int{11, 1, 10}, nil, []int{1, 9}, 0, 10, []int{0, 1, 11}, []int{10}, []int{9}}, // below 3: 0 isn't there yet
		{3, 2, []int{11, 1, 10}, nil, []int{3, 9}, 0, 1, []int{0, 10, 11}, []int{1}, []int{9}},
		{3, 2, []int{11, 1, 10}, nil, []int{-1, 9}, 0, 11, []int{0, 1, 10}, []int{11}, []int{9}},
		// it is full, and its own place, since it was passive, is one that is left
		{1, 1, []int{5}, []int{6}, []int{8, 9}, 6, 5, []int{6}, []int{5}, []int{9}},
		{2, 2, []int{5, 7}, []int{6, 9}, []int{1, 0, 9}, 6, 7, []int{5, 6}, []int{7, 9}, []int{0, 9}},
		{2, 2, []int{5, 7}, []int{6, 9}, []int{0, 1, 9}, 9, 5, []int{7, 9}, []int{5, 6}, []int{1, 9}},
		{2, 3, []int{5, 7}, []int{6, 9}, []int{0, 1, 9}, 9, 5, []int{7, 9}, []int{5, 6}, []int{1, 9}},
		// it is full, too: one leaves that view ahead of who had to give way
		{1, 1, []int{5}, []int{6}, []int{8, 7, 9}, 0, 5, []int{0}, []int{5}, []int{9}},
		{2, 2, []int{5, 7}, []int{6, 9}, []int{0, 0, 9}, 8, 5, []int{7, 8}, []int{5, 9}, []int{9}},
		{2, 2, []int{5, 7}, []int{6, 9}, []int{0, 1, 9}, 8, 5, []int{7, 8}, []int{5, 6}, []int{9}},
		{2, 2, []int{5, 7}, []int{6, 9}, []int{1, 0, 9}, 8, 7, []int{5, 8}, []int{7, 9}, []int{9}},
		{2, 2, []int{5, 7}, []int{9, 6}, []int{1, 1, 9}, 8, 7, []int{5, 8}, []int{6, 7}, []int{9}},
		{3, 2, []int{0, 5, 7}, []int{6, 9}, []int{2, 2, 9}, 8, 7, []int{0, 5, 8}, []int{7, 9}, []int{9}}, // below 3, then below 2
		{2, 3, []int{5, 7}, []int{6, 9, 11}, []int{2, 2, 9}, 8, 5, []int{7, 8}, []int{5, 6, 9}, []int{9}},
		{2, 3, []int{5, 7}, []int{6, 9, 11}, []int{-1, -3, 9}, 8, 7, []int{5, 8}, []int{7, 9, 11}, []int{9}},
		// numbers that end, or that there never were
		{2, 2, []int{5, 7}, []int{6, 9}, nil, 8, 5, []int{7, 8}, []int{5, 9}, nil},
		{2, 2, []int{5, 7}, []int{6, 9}, []int{1}, 8, 7, []int{5, 8}, []int{7, 9}, nil},
		{2, 2, []int{5, 7}, []int{6, 9}, []int{math.MinInt, math.MaxInt, 9}, 8, 5, []int{7, 8}, []int{5, 6}, []int{9}},
		// all places that there may be
		{10, 11, []int{0, 1, 2, 4, 5, 6, 7, 8, 9, 10}, nil, []int{9, 9}, 11, 10, []int{0, 1, 2, 4, 5, 6, 7, 8, 9, 11}, []int{10}, []int{9}},
		{11, 1, []int{0, 1, 2, 4, 5, 6, 7, 8, 9, 10}, nil, []int{9, 9}, 11, -1, others(3), nil, []int{9, 9}},
	} {
		k.holds(t, raise)
	}
}

func TestLower(t *testing.T) {
	for _, k := range []row{
		{1, 1, []int{5}, nil, []int{8, 9}, 5, -1, nil, []int{5}, []int{8, 9}},
		{3, 2, []int{5, 0, 11}, []int{6}, []int{8, 9}, 0, -1, []int{5, 11}, []int{0, 6}, []int{8, 9}},
		{3, 2, []int{5, 0, 11}, []int{6}, []int{8, 9}, 11, -1, []int{0, 5}, []int{6, 11}, []int{8, 9}},
		{1, 1, []int{5}, []int{6}, []int{8, 9}, 5, -1, nil, []int{5}, []int{9}},
		{2, 2, []int{5, 7}, []int{6, 9}, []int{0, 9}, 5, -1, []int{7}, []int{5, 9}, []int{9}},
		{2, 2, []int{5, 7}, []int{9, 6}, []int{1, 9}, 5, -1, []int{7}, []int{5, 6}, []int{9}},
		{2, 2, []int{5, 7}, []int{6, 9}, []int{2, 9}, 7, -1, []int{5}, []int{7, 9}, []int{9}}, // below 2: 7 isn't there yet
		{2, 3, []int{5, 7}, []int{6, 9, 0}, []int{-1, 9}, 7, -1, []int{5}, []int{0, 6, 7}, []int{9}},
		{2, 3, []int{5, 7}, []int{6, 9, 0}, []int{-2, 9}, 7, -1, []int{5}, []int{0, 7, 9}, []int{9}},
		{2, 3, []int{5, 7}, []int{6, 9, 0}, nil, 7, -1, []int{5}, []int{6, 7, 9}, nil},
		{11, 11, others(3), nil, []int{9}, 6, -1, []int{0, 1, 2, 4, 5, 7, 8, 9, 10, 11}, []int{6}, []int{9}},
	} {
		k.holds(t, lower)
	}
}

func TestLearn(t *testing.T) {
	for _, k := range []row{
		{1, 1, nil, nil, []int{8, 9}, 0, -1, nil, []int{0}, []int{8, 9}},
		{1, 2, []int{5}, []int{6}, []int{8, 9}, 11, -1, []int{5}, []int{6, 11}, []int{8, 9}},
		{2, 2, []int{5}, []int{6}, []int{8, 9}, 0, -1, []int{5}, []int{0, 6}, []int{8, 9}}, // though there is room in the active one
		{1, 1, nil, []int{6}, []int{8, 9}, 5, -1, nil, []int{5}, []int{9}},
		{1, 2, []int{5}, []int{6, 9}, []int{0, 9}, 7, -1, []int{5}, []int{7, 9}, []int{9}},
		{1, 2, []int{5}, []int{9, 6}, []int{1, 9}, 7, -1, []int{5}, []int{6, 7}, []int{9}},
		{1, 2, []int{5}, []int{6, 9}, []int{2, 9}, 11, -1, []int{5}, []int{9, 11}, []int{9}}, // below 2: 11 isn't there yet
		{1, 3, []int{5}, []int{6, 9, 0}, []int{-1, 9}, 7, -1, []int{5}, []int{0, 6, 7}, []int{9}},
		{1, 3, []int{5}, []int{6, 9, 0}, []int{-2, 9}, 7, -1, []int{5}, []int{0, 7, 9}, []int{9}},
		{1, 3, []int{5}, []int{6, 9, 0}, nil, 7, -1, []int{5}, []int{6, 7, 9}, nil},
		{1, 11, nil, []int{0, 1, 2, 4, 5, 6, 7, 8, 9, 10}, []int{9}, 11, -1, nil, others(3), []int{9}},
	} {
		k.holds(t, learn)
	}
}

// What an act may not be done with changes nothing, and draws nothing, whether there is room or not.
func TestWhatIsRefused(t *testing.T) {
	for _, k := range []struct {
		places, others int
		in, out        []int
	}{
		{1, 1, nil, nil},
		{1, 1, []int{5}, []int{6}},
		{3, 2, []int{0, 11, 7}, []int{1, 10}},
		{3, 2, []int{5}, []int{1}},
		{11, 11, []int{0, 11, 7}, []int{1, 10}},
		{11, 11, others(3), nil},
		{11, 11, nil, others(3)},
	} {
		b := with(t, 3, k.places, k.others, k.in, k.out, []int{1, 2, 4, 5})
		refuse := func(a act, l []int) {
			for _, n := range l {
				if gone, ok := a.do(b.v, n, b.d); gone != -1 || ok {
					t.Fatalf("%s(%d) of %+v: %d, %v", a.name, n, k, gone, ok)
				}
				b.holds(t, fmt.Sprintf("%s(%d) of %+v", a.name, n, k))
			}
		}
		wrong := append(slices.Clone(noSites), 3)
		refuse(raise, slices.Concat(wrong, k.in))
		refuse(lower, slices.Concat(wrong, k.out))
		refuse(learn, slices.Concat(wrong, k.in, k.out))
		for n := range 12 {
			if !slices.Contains(k.in, n) {
				refuse(lower, []int{n})
			}
		}
		next(t, fmt.Sprintf("refused: %+v", k), b.d, 1, 2, 4, 5)
	}
}

// Each place of a view is drawn by its number, also by one below 0 that comes to it.
func TestEachPlaceIsDrawn(t *testing.T) {
	for places := 1; places < 10; places++ {
		in := []int{11, 10, 9, 8, 7, 6, 5, 4, 2}[:places]
		rising := slices.Clone(in)
		slices.Sort(rising)
		for place, gone := range rising {
			for _, round := range []int{0, 1, -1, 1 << 40, -1 << 40} {
				numbers := []int{place + round*places, 9}
				what := fmt.Sprint(places, " places, ", numbers)

				b := with(t, 3, places, 1, in, nil, numbers)
				if got, _ := b.v.Raise(0, b.d); got != gone || b.v.IsActive(gone) || !b.v.IsPassive(gone) {
					t.Fatal(what, got, gone)
				}
				b.holdsBut(t, what, gone)

				b = with(t, 3, 1, places, []int{1}, in, numbers)
				if !b.v.Learn(0, b.d) || b.v.IsPassive(gone) || !b.v.IsPassive(0) {
					t.Fatal(what, b.v.Passive())
				}
				b.holdsBut(t, what, gone)

				b = with(t, 3, 1, places, []int{1}, in, numbers)
				if !b.v.Lower(1, b.d) || b.v.IsPassive(gone) || !b.v.IsPassive(1) {
					t.Fatal(what, b.v.Passive())
				}
				b.holdsBut(t, what, gone)
			}
		}
	}
}

// holdsBut fails the test where another one than that one left its view.
func (b *both) holdsBut(t *testing.T, what string, gone int) {
	t.Helper()
	for n := range b.p.in {
		if n != gone && b.p.in[n] != unknown && !slices.Contains(b.v.Known(), n) {
			t.Fatal(what, n, b.v.Known())
		}
	}
	next(t, what, b.d, 9)
}
