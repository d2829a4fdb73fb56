package dice_test

import (
	"fmt"
	"math"
	"math/rand"
	"slices"
	"testing"

	"quidnunc/dice"
)

// among fails the test where one that is drawn isn't there, or is drawn more often than it is there.
func among(t *testing.T, what string, drawn, l []int) {
	t.Helper()
	rest := slices.Clone(l)
	for _, one := range drawn {
		at := slices.Index(rest, one)
		if at < 0 {
			t.Fatalf("%s: %v of %v: %d is none of those that there are", what, drawn, l, one)
		}
		rest = slices.Delete(rest, at, at+1)
	}
}

// places gives the list 0, 1 .. of a length.
func places(n int) []int {
	l := make([]int, n)
	for i := range l {
		l[i] = i
	}
	return l
}

// P14.2.

func TestWhatIsDrawnIsAmongThoseThatThereAre(t *testing.T) {
	r := rand.New(rand.NewSource(3))
	for range 2000 {
		d := dice.New(ofAllKinds(r, 12)...)
		l := few(r, 12)
		if r.Intn(2) == 0 {
			l = ofAllKinds(r, 12)
		}
		k := r.Intn(16) - 2
		drawn := d.Some(l, k)
		among(t, fmt.Sprint("Some, ", k), drawn, l)
		if len(drawn) != max(0, min(k, len(l))) {
			t.Fatalf("Some of %v, %d: %v", l, k, drawn)
		}
		one, ok := d.Pick(l)
		if ok != (len(l) > 0) || ok && !slices.Contains(l, one) {
			t.Fatalf("Pick of %v: %d, %v", l, one, ok)
		}
		n := r.Intn(20) - 4
		if r.Intn(2) == 0 {
			n = numbers[r.Intn(len(numbers))]
		}
		if got := d.Draw(n); got < 0 || got >= max(1, n) {
			t.Fatalf("Draw(%d): %d", n, got)
		}
	}
}

// All that are drawn are all that there are, each once, in each order that there is, which hangs on the
// numbers alone.
func TestAllAreDrawnInEachOrder(t *testing.T) {
	orders := 1
	for size := 1; size < 7; size++ {
		orders *= size
		told := map[string]int{}
		for first := range orders {
			var l []int
			for n, rest := size, first; n > 0; n-- {
				l = append(l, rest%n-n*(first%3)) // also such that are below 0
				rest /= n
			}
			d := dice.New(l...)
			drawn := d.Some(places(size), size)
			told[fmt.Sprint(drawn)]++
			slices.Sort(drawn)
			if !slices.Equal(drawn, places(size)) {
				t.Fatalf("of %d by %v: %v", size, l, drawn)
			}
			leaves(t, fmt.Sprint("of ", size), d, 0)
		}
		if len(told) != orders {
			t.Fatalf("of %d: %d orders, want %d", size, len(told), orders)
		}
	}
}

// Each number below n is drawn, and each place picked, by one of n numbers in a row.
func TestEachIsDrawn(t *testing.T) {
	for n := 1; n < 20; n++ {
		for _, from := range []int{math.MinInt, -1 << 32, -3 * n, -n - 1, -n, -1, 0, 1, n, 1 << 32, math.MaxInt - n} {
			var row []int
			for i := range n {
				row = append(row, from+i)
			}
			drawn, picked := dice.New(row...), dice.New(row...)
			var l, m []int
			for range n {
				one, _ := picked.Pick(places(n))
				l, m = append(l, drawn.Draw(n)), append(m, one)
			}
			slices.Sort(l)
			slices.Sort(m)
			if !slices.Equal(l, places(n)) || !slices.Equal(m, places(n)) {
				t.Fatalf("below %d, from %d: %v, %v", n, from, l, m)
			}
		}
	}
}

// K5: what is handed in is neither changed nor kept.

func TestNumbersHandedInAreNotKept(t *testing.T) {
	l := make([]int, 3, 9)
	copy(l, []int{7, 8, 9})
	d := dice.New(l...)
	more := make([]int, 2, 9)
	copy(more, []int{5, 6})
	d.Feed(more...)
	d.Feed(more...)
	clear(l[:cap(l)])
	clear(more[:cap(more)])
	next(t, "written over", d, 7, 8, 9, 5, 6, 5, 6)
	d.Feed(more...)
	d.Feed(1)
	clear(more)
	more[0] = 4
	next(t, "fed where all were drawn", d, 0, 0, 1)
}

func TestNumbersHandedInAreNotChanged(t *testing.T) {
	l := make([]int, 3, 9)
	copy(l, []int{7, 8, 9})
	was := slices.Clone(l[:cap(l)])
	d := dice.New(l...)
	d.Feed(l[:1]...)
	d.Feed(4, 5)
	d.Draw(5)
	d.Some([]int{1, 2, 3}, 2)
	d.Feed(6)
	d.Pick([]int{1, 2})
	next(t, "what is left", d, 4, 5, 6)
	if !slices.Equal(l[:cap(l)], was) {
		t.Fatal(l[:cap(l)], was)
	}
}

// What stands behind a list that is handed in is not touched, either.
func TestWhatIsBehindAListStays(t *testing.T) {
	whole := places(9)
	for n := range 10 {
		for k := range 11 {
			d := dice.New(-1, -1, -1, 3, 0, 2)
			d.Some(whole[:n], k)
			d.Pick(whole[:n])
			d.Feed(whole[:n]...)
			if !slices.Equal(whole, places(9)) {
				t.Fatalf("%d of %d: %v", k, n, whole)
			}
		}
	}
}

// K5: what is told is new memory.

func TestWhatIsToldIsNotKept(t *testing.T) {
	l := []int{5, 6, 7, 8}
	for k := range 6 {
		d := dice.New(3, 1, 2, 9)
		first := d.Some(l, k)
		d = dice.New(3, 1, 2, 9)
		second := d.Some(l, k)
		want := slices.Clone(first)
		clear(second[:cap(second)])
		_ = append(second[:0], 41, 42, 43, 44, 45)
		if !slices.Equal(first, want) || !slices.Equal(l, []int{5, 6, 7, 8}) {
			t.Fatalf("%d: %v, want %v; of %v", k, first, want, l)
		}
		next(t, "what is left", d, []int{3, 1, 2, 9}[min(k, 4):]...)
	}
}

// What is told stays, whatever becomes of the list that was handed in.
func TestWhatIsToldStays(t *testing.T) {
	for k := range 6 {
		l := []int{5, 6, 7, 8}
		d := dice.New()
		drawn := d.Some(l, k)
		clear(l)
		_ = append(l[:0], 9, 9, 9, 9)
		if !slices.Equal(drawn, []int{5, 6, 7, 8}[:min(k, 4)]) {
			t.Fatal(k, drawn)
		}
		_ = append(drawn, 1, 2)
		if !slices.Equal(l, []int{9, 9, 9, 9}) {
			t.Fatal(k, l)
		}
	}
}

// K6: dice have nothing in common, and the same calls have the same answers.

func TestDiceHaveNothingInCommon(t *testing.T) {
	l := []int{1, 2, 3}
	d, e := dice.New(l...), dice.New(l...)
	d.Feed(4)
	e.Feed(5)
	draws(t, "the one", d, 9, 1)
	draws(t, "the one", d, 9, 2)
	f := dice.New(l...)
	leaves(t, "the other one", e, 4)
	next(t, "the one", d, 3, 4)
	next(t, "the other one", e, 1, 2, 3, 5)
	next(t, "a third one", f, 1, 2, 3)
	next(t, "one of none", dice.New())
}

func TestTheSameAnswersToTheSame(t *testing.T) {
	story := func(seed int64) string {
		r := rand.New(rand.NewSource(seed))
		d := dice.New(ofAllKinds(r, 12)...)
		var answers []string
		for range 40 {
			d.Feed(ofAllKinds(r, 3)...)
			one, ok := d.Pick(few(r, 9))
			answers = append(answers, fmt.Sprint(d.Draw(r.Intn(9)-1), one, ok, d.Some(few(r, 9), r.Intn(9)), d.Left()))
		}
		return fmt.Sprint(answers)
	}
	var first []string
	for seed := range 30 {
		first = append(first, story(int64(seed)))
	}
	for seed := 29; seed >= 0; seed-- {
		if story(int64(seed)) != first[seed] {
			t.Fatal("seed ", seed)
		}
	}
}
