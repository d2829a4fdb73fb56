package views_test

import (
	"fmt"
	"math/rand"
	"slices"
	"testing"

	"quidnunc/dice"
)

// sound fails the test where somebody is in both views, the node itself in one, or there are more than may be.
func sound(t *testing.T, what string, b *both, places, others int) {
	t.Helper()
	in, out, all := b.v.Active(), b.v.Passive(), b.v.Known()
	if len(in) > places || len(out) > others {
		t.Fatalf("%s: more than may be: %v, %v", what, in, out)
	}
	if len(all) != len(in)+len(out) {
		t.Fatalf("%s: known are %v: %v, %v", what, all, in, out)
	}
	for i, n := range all {
		if n < 0 || n > 11 || n == b.v.Self() || i > 0 && all[i-1] >= n {
			t.Fatalf("%s: of %d: %v", what, b.v.Self(), all)
		}
		if slices.Contains(in, n) == slices.Contains(out, n) || b.v.IsActive(n) == b.v.IsPassive(n) {
			t.Fatalf("%s: %d is in both, or in none: %v, %v", what, n, in, out)
		}
	}
}

// forgot gives those that were known, and aren't.
func forgot(was, is []int) []int {
	return slices.DeleteFunc(slices.Clone(was), func(n int) bool { return slices.Contains(is, n) })
}

func TestViewsStaySound(t *testing.T) {
	for seed := range 400 {
		r := rand.New(rand.NewSource(int64(seed)))
		places, others := 1+r.Intn(11), 1+r.Intn(11)
		b := with(t, r.Intn(12), places, others, nil, nil, nil)
		for i := range 150 {
			b.d.Feed(numbersAtWill(r, 2)...)
			acts[r.Intn(3)].do(b.v, nodeAtWill(r), b.d)
			sound(t, fmt.Sprint("seed ", seed, ", act ", i), b, places, others)
		}
	}
}

// P15.3.

// With room for all others nobody who was known is forgotten.
func TestNobodyIsForgotten(t *testing.T) {
	for seed := range 300 {
		r := rand.New(rand.NewSource(int64(seed)))
		nodes := 2 + r.Intn(11)
		self := r.Intn(nodes)
		b := with(t, self, 1+r.Intn(11), nodes-1, nil, nil, nil)
		met := map[int]int{}
		for i := range 200 {
			b.d.Feed(numbersAtWill(r, 2)...)
			n, a := r.Intn(nodes), acts[r.Intn(3)]
			if _, ok := a.do(b.v, n, b.d); ok {
				met[n]++
			}
			for _, n := range others(self) {
				if (met[n] > 0) != slices.Contains(b.v.Known(), n) {
					t.Fatalf("seed %d, act %d: %s(%d): known are %v, met were %v", seed, i, a.name, n, b.v.Known(), met)
				}
			}
		}
	}
}

// As long as there is room ahead of an act, all who were known are known behind it; else one goes at most.
func TestNobodyIsForgottenWhileThereIsRoom(t *testing.T) {
	roomy, went := 0, 0
	for seed := range 600 {
		r := rand.New(rand.NewSource(int64(seed)))
		places := 1 + r.Intn(6)
		b := with(t, r.Intn(12), 1+r.Intn(6), places, nil, nil, nil)
		for i := range 60 {
			b.d.Feed(numbersAtWill(r, 2)...)
			was, room := b.v.Known(), len(b.v.Passive()) < places
			a := acts[r.Intn(3)]
			a.do(b.v, nodeAtWill(r), b.d)
			gone := len(forgot(was, b.v.Known()))
			if room && gone > 0 || gone > 1 {
				t.Fatalf("seed %d, act %d: %s: known were %v, are %v", seed, i, a.name, was, b.v.Known())
			}
			went += gone
			if room {
				roomy++
			}
		}
	}
	if roomy == 0 || went == 0 {
		t.Fatal("too few acts were tried: ", roomy, went)
	}
}

// Who is raised out of a full passive view leaves a place for the one that has to give way.
func TestNobodyIsForgottenWhereTwoChange(t *testing.T) {
	for _, n := range []int{6, 9} {
		for number := -3; number < 4; number++ {
			b := with(t, 3, 2, 2, []int{5, 7}, []int{6, 9}, []int{number, 0, 9})
			gone, ok := b.v.Raise(n, b.d)
			if !ok || !slices.Equal(b.v.Known(), []int{5, 6, 7, 9}) || !b.v.IsPassive(gone) || !b.v.IsActive(n) {
				t.Fatal(n, number, gone, ok, b.v.Active(), b.v.Passive())
			}
			next(t, "drawn once", b.d, 0, 9)
		}
	}
}

// Where there is no room for who comes, one of the passive view is forgotten, none of the active one.
func TestWhoIsForgottenWasPassive(t *testing.T) {
	for seed := range 200 {
		r := rand.New(rand.NewSource(int64(seed)))
		b := with(t, 0, 3, 3, []int{1, 2, 3}, []int{4, 5, 6}, numbersAtWill(r, 2))
		a := acts[r.Intn(3)]
		n := 7 + r.Intn(5)
		if a.name == "Lower" {
			n = 1 + r.Intn(3)
		}
		if _, ok := a.do(b.v, n, b.d); !ok {
			t.Fatal(a.name, n)
		}
		gone := forgot([]int{1, 2, 3, 4, 5, 6}, b.v.Known())
		if len(gone) != 1 || gone[0] < 4 || !slices.Contains(b.v.Known(), n) {
			t.Fatal(a.name, n, gone, b.v.Known())
		}
	}
}

// K5: what is told is new memory.

func TestWhatIsToldIsNotKept(t *testing.T) {
	lists := func(b *both) [][]int { return [][]int{b.v.Active(), b.v.Passive(), b.v.Known()} }
	for _, k := range []struct{ in, out []int }{
		{nil, nil}, {[]int{1, 5, 9}, nil}, {nil, []int{0, 2, 4}}, {[]int{1, 5, 9}, []int{0, 2, 4}}, {[]int{11, 1}, []int{0}},
	} {
		b := with(t, 3, 4, 4, k.in, k.out, nil)
		first := lists(b)
		for _, l := range lists(b) {
			whole := l[:cap(l)]
			for i := range whole {
				whole[i] = 77
			}
			_ = append(l[:0], 71, 72, 73, 74, 75, 76)
			b.holds(t, "written over")
		}
		if second := lists(b); fmt.Sprint(first) != fmt.Sprint(second) {
			t.Fatal(first, second)
		}
	}
}

// What is told stays, whatever comes about then.
func TestWhatIsToldStays(t *testing.T) {
	for seed := range 200 {
		r := rand.New(rand.NewSource(int64(seed)))
		b := with(t, 3, 1+r.Intn(6), 1+r.Intn(6), nil, nil, nil)
		var told [][]int
		var was []string
		for range 40 {
			b.d.Feed(numbersAtWill(r, 1)...)
			acts[r.Intn(3)].do(b.v, r.Intn(12), b.d)
			for _, l := range [][]int{b.v.Active(), b.v.Passive(), b.v.Known()} {
				told, was = append(told, l), append(was, fmt.Sprint(l))
			}
		}
		for i, l := range told {
			if fmt.Sprint(l) != was[i] {
				t.Fatal(seed, i, l, was[i])
			}
		}
	}
}

// K6: views have nothing in common, and keep no dice.

func TestViewsHaveNothingInCommon(t *testing.T) {
	b, c := with(t, 3, 2, 2, nil, nil, nil), with(t, 4, 1, 1, nil, nil, nil)
	for n := range 12 {
		b.acts(t, "the one", raise, n)
		b.holds(t, "the one")
		c.holds(t, "the other one")
		c.acts(t, "the other one", learn, 11-n)
		b.holds(t, "the one")
		c.holds(t, "the other one")
	}
}

func TestDiceAreNotKept(t *testing.T) {
	v := with(t, 3, 1, 2, []int{5}, []int{6, 7}, nil).v
	first, second, third := dice.New(0, 0, 8), dice.New(0, 1, 9), dice.New(1, 7)
	v.Raise(8, first)
	tells(t, "the first dice", v, []int{8}, []int{5, 7})
	v.Raise(9, second)
	tells(t, "the second dice", v, []int{9}, []int{5, 8})
	v.Learn(0, third)
	tells(t, "the third dice", v, []int{9}, []int{0, 5})
	next(t, "the first dice", first, 8)
	next(t, "the second dice", second, 9)
	next(t, "the third dice", third, 7)
}

// Those that share dice draw of them in turn.
func TestDiceOfTwo(t *testing.T) {
	d := dice.New(1, 1, 0, 1, 6)
	one := with(t, 3, 2, 2, []int{5, 7}, []int{6, 9}, nil).v
	two := with(t, 4, 2, 2, []int{5, 7}, []int{6, 9}, nil).v
	one.Raise(8, d)
	tells(t, "the one", one, []int{5, 8}, []int{6, 7})
	two.Raise(8, d)
	tells(t, "the other one", two, []int{7, 8}, []int{5, 6})
	next(t, "what is left", d, 6)
}

func TestTheSameAnswersToTheSame(t *testing.T) {
	story := func(seed int64) string {
		r := rand.New(rand.NewSource(seed))
		b := with(t, r.Intn(12), 1+r.Intn(6), 1+r.Intn(6), nil, nil, numbersAtWill(r, 60))
		var answers []string
		for range 60 {
			gone, ok := acts[r.Intn(3)].do(b.v, nodeAtWill(r), b.d)
			answers = append(answers, fmt.Sprint(gone, ok, b.v.Active(), b.v.Passive(), b.v.Full(), b.d.Left()))
		}
		return fmt.Sprint(answers)
	}
	var first []string
	for seed := range 30 {
		first = append(first, story(int64(seed)))
	}
	for seed := 29; seed >= 0; seed-- {
		if story(int64(seed)) != first[seed] {
			t.Fatal("seed ", seed)
		}
	}
}
