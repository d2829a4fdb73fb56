package setup_test

import (
	"fmt"
	"math/rand"
	"testing"

	"quidnunc/setup"
)

// steps reckons Steps of a configuration that may be, part by part.
func steps(c setup.Config) int {
	n := c.Cap + 2
	for left := c.Nodes * c.Nodes * c.Quota; left > 0; left -= c.Chunk {
		n++
	}
	return n
}

// rounds reckons the chapter's B of a configuration that may be, pair by pair.
func rounds(c setup.Config) int {
	session := 5 + steps(c) + steps(c)
	b := 2
	for range c.Nodes - 1 {
		for range c.Nodes - 1 {
			b += (c.Full + 2) * (session + 1)
		}
	}
	return b
}

// isTold fails the test where a configuration has others of these answers.
func isTold(t *testing.T, c setup.Config, roomy bool, steps, bound, long int) {
	t.Helper()
	if setup.Roomy(c) != roomy || setup.Steps(c) != steps {
		t.Errorf("roomy %v, steps %d; want %v, %d: %+v", setup.Roomy(c), setup.Steps(c), roomy, steps, c)
	}
	// No bound is 0, so that 0 stands for none.
	if n, ok := setup.Bound(c); n != bound || ok != (bound != 0) {
		t.Errorf("bound %d, %v; want %d: %+v", n, ok, bound, c)
	}
	if n, ok := setup.Long(c); n != long || ok != (long != 0) {
		t.Errorf("long %d, %v; want %d: %+v", n, ok, long, c)
	}
}

// P13.2: the numbers, reckoned from the chapter apart from the program.

func TestTheExample(t *testing.T) {
	isTold(t, example(), true, 20, 140, 0)
	isTold(t, with(example(), t1, 283, t2, 283), true, 20, 0, 0)
	isTold(t, with(example(), t1, 284, t2, 284), true, 20, 0, 564)
	isTold(t, with(example(), t1, 285, t2, oldest), true, 20, 0, 564)
	isTold(t, with(example(), nodes, 3), false, 23, 0, 0)
}

func TestNumbersReckonedApart(t *testing.T) {
	for _, x := range []struct {
		nodes, quota, chunk, full, cap int
		steps, bound                   int
	}{
		{2, 1, 8, 1, 1, 4, 44},             // one part, though half of it is empty
		{2, 2, 8, 1, 1, 4, 44},             // one part, full
		{2, 3, 8, 1, 1, 5, 50},             // 12 entries
		{3, 1, 2, 2, 10, 17, 642},          // 9 entries
		{5, 4, 3, 4, 100, 136, 26690},      // 100 entries
		{12, 16, 1, 8, 512, 2818, 6826822}, // the greatest of all
		{12, 16, 8, 8, 512, 802, 1948102},  // 2304 entries, all parts full
		{12, 16, 7, 1, 512, 844, 614924},   // the last part has one
		{7, 13, 6, 3, 300, 409, 148322},    // 637 entries
		{11, 1, 5, 8, 1, 28, 62002},        // 121 entries
	} {
		c := with(greatest(), nodes, x.nodes, retain, 1, quota, x.quota, chunk, x.chunk, full, x.full, capacity, x.cap)
		isTold(t, with(c, t1, 0, t2, 0), true, x.steps, x.bound, 0)
		edge := 2*x.bound + 4
		isTold(t, with(c, t1, edge-1), true, x.steps, 0, 0)
		isTold(t, with(c, t1, edge), true, x.steps, 0, 4*x.bound+4)
		isTold(t, with(c, t1, edge, t2, edge), true, x.steps, 0, 4*x.bound+4)
		isTold(t, with(c, t1, edge+1), true, x.steps, 0, 4*x.bound+4)
		isTold(t, with(c, t1, oldest), true, x.steps, 0, 4*x.bound+4)
	}
}

// P13.2: Roomy.

func TestRoomy(t *testing.T) {
	for n := 2; n <= 12; n++ {
		for p := 1; p <= 11; p++ {
			for _, c := range fine() {
				c = with(c, nodes, n, retain, 1, passive, p)
				if got, want := setup.Roomy(c), p >= n-1; got != want {
					t.Errorf("Nodes %d, Passive %d: %v", n, p, got)
				}
			}
		}
		for _, p := range []int{-1, 0, 12, 13, 1<<32 + 11} {
			if setup.Roomy(with(middle(), nodes, n, retain, 1, passive, p)) {
				t.Errorf("Nodes %d, Passive %d, that may not be", n, p)
			}
		}
	}
}

// Where it isn't roomy there are no bounds, but its steps; how many neighbours there may be changes nothing.
func TestNotRoomy(t *testing.T) {
	for n := 3; n <= 12; n++ {
		for _, a := range []int{1, 6} {
			c := with(example(), nodes, n, active, a)
			isTold(t, with(c, passive, n-2), false, steps(c), 0, 0)
			isTold(t, with(c, passive, n-2, t1, oldest, t2, oldest), false, steps(c), 0, 0)
			isTold(t, with(c, passive, n-1), true, steps(c), rounds(c), 0)
			isTold(t, with(c, passive, n-1, t1, oldest, t2, oldest), true, steps(c), 0, 4*rounds(c)+4)
			isTold(t, with(c, passive, 11), true, steps(c), rounds(c), 0)
		}
	}
}

// P13.2: Steps, Bound, Long.

func TestStepsOfAll(t *testing.T) {
	for n := 2; n <= 12; n++ {
		for q := 1; q <= 16; q++ {
			for k := 1; k <= 8; k++ {
				for _, room := range []int{1, 2, 255, 511, 512} {
					c := with(middle(), nodes, n, quota, q, chunk, k, capacity, room)
					if got := setup.Steps(c); got != steps(c) {
						t.Fatal(n, q, k, room, got, steps(c))
					}
				}
			}
		}
	}
}

func TestBoundsOfAll(t *testing.T) {
	for n := 2; n <= 12; n++ {
		for f := 1; f <= 8; f++ {
			for k := 1; k <= 8; k++ {
				c := with(greatest(), nodes, n, retain, 1, full, f, chunk, k, quota, n+f-2, t1, 0, t2, 0)
				if n+f-2 > 16 {
					c = with(c, quota, 16)
				}
				b := rounds(c)
				isTold(t, c, true, steps(c), b, 0)
				isTold(t, with(c, t1, 1, t2, 1), true, steps(c), 0, 0)
				isTold(t, with(c, t1, 2*b+3, t2, oldest), true, steps(c), 0, 0)
				isTold(t, with(c, t1, 2*b+4, t2, oldest), true, steps(c), 0, 4*b+4)
				isTold(t, with(c, t1, 2*b+5, t2, oldest), true, steps(c), 0, 4*b+4)
			}
		}
	}
}

func TestBoundsOfAny(t *testing.T) {
	d := rand.New(rand.NewSource(4))
	told := map[string]int{}
	for range 40000 {
		c := drawGood(d)
		roomy, b := c.Passive >= c.Nodes-1, rounds(c)
		switch {
		case roomy && c.T1 == 0:
			told["bound"]++
			isTold(t, c, roomy, steps(c), b, 0)
		case roomy && c.T1 >= 2*b+4:
			told["long"]++
			isTold(t, c, roomy, steps(c), 0, 4*b+4)
		default:
			told[fmt.Sprint("neither, roomy ", roomy)]++
			isTold(t, c, roomy, steps(c), 0, 0)
		}
	}
	for _, what := range []string{"bound", "long", "neither, roomy true", "neither, roomy false"} {
		if told[what] < 500 {
			t.Error("hardly drawn: ", what, told[what])
		}
	}
}

// P13.2: of configurations that may not be all these tell 0 and false, whatever they hang on.
func TestNoBoundsOfWhatMayNotBe(t *testing.T) {
	for _, c := range wrong() {
		isTold(t, c, false, 0, 0, 0)
	}
	isTold(t, setup.Config{}, false, 0, 0, 0)
	isTold(t, setup.Config{Nodes: 2, Passive: 11}, false, 0, 0, 0)
	d := rand.New(rand.NewSource(5))
	for range 20000 {
		if c := drawAny(d); firstWrong(c) != none {
			isTold(t, c, false, 0, 0, 0)
		}
	}
}

// wrong gives configurations of which one number may not be; all of them were roomy, most had a bound.
func wrong() []setup.Config {
	var l []setup.Config
	for _, c := range fine() {
		for place, n := range numbersOf(c) {
			for _, bad := range append([]int{65 + n, 513 + n, -1 - n, n + 1<<31, n + 1<<32, n - 1<<32}, far...) {
				if d := with(c, place, bad); firstWrong(d) != none {
					l = append(l, d)
				}
			}
		}
		for _, x := range edges {
			if d := with(c, x.place, x.from-1); firstWrong(d) != none {
				l = append(l, d)
			}
			if d := with(c, x.place, x.to+1); firstWrong(d) != none {
				l = append(l, d)
			}
		}
	}
	return l
}
