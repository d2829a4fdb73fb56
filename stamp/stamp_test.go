package stamp_test

import (
	"fmt"
	"math"
	"math/rand"
	"slices"
	"sync"
	"testing"

	"quidnunc/api"
	"quidnunc/stamp"
)

const greatest = 1<<32 - 1 // counter

// at gives a stamp, that may be or not.
func at(counter, site int) api.Stamp { return api.Stamp{Counter: counter, Site: site} }

// counters are such that may be, rising, and noCounters such that may not.
var (
	counters   = []int{1, 2, 3, 255, 256, 257, 65535, 65536, 1<<31 - 1, 1 << 31, 1<<31 + 1, greatest - 1, greatest}
	noCounters = []int{0, -1, -2, -255, -1 << 31, -greatest, 1 << 32, 1<<32 + 1, 1<<33 - 1, 1<<33 + 7, 1 << 62, math.MaxInt, math.MinInt, math.MinInt + 1}
)

// sites are those that there are, and noSites some that there aren't.
var (
	sites   = []int{0, 1, 2, 3, 4, 5, 6, 7, 8, 9, 10, 11}
	noSites = []int{-1, 12, 13, 16, -11, -12, 255, 256, 257, 1 << 32, 1<<32 + 1, -1 << 32, math.MaxInt, math.MinInt}
)

// rising gives stamps, each later than the one ahead, whether they may be or not.
func rising() []api.Stamp {
	var l []api.Stamp
	for _, counter := range []int{math.MinInt, math.MinInt + 1, -1 << 32, -1, 0, 1, 2, 5, 1 << 31, greatest - 1, greatest, 1 << 32, 1<<32 + 1, math.MaxInt - 1, math.MaxInt} {
		for _, site := range []int{math.MinInt, -1 << 32, -1, 0, 1, 2, 10, 11, 12, 1 << 32, math.MaxInt} {
			l = append(l, at(counter, site))
		}
	}
	return l
}

// mayNotBe gives stamps of which none may be.
func mayNotBe() []api.Stamp {
	var l []api.Stamp
	for _, counter := range noCounters {
		for _, site := range slices.Concat(sites, noSites) {
			l = append(l, at(counter, site))
		}
	}
	for _, counter := range counters {
		for _, site := range noSites {
			l = append(l, at(counter, site))
		}
	}
	return l
}

// clock gives a clock, that may be.
func clock(t *testing.T, site, from int) *stamp.Clock {
	t.Helper()
	c, e := stamp.New(site, from)
	if e != api.OK || c == nil {
		t.Fatalf("the clock of %d from %d: %v, error %d", site, from, c, e)
	}
	return c
}

// stands fails the test where a clock has another site, or another counter.
func stands(t *testing.T, what string, c *stamp.Clock, site, counter int) {
	t.Helper()
	if c.Site() != site || c.Now() != counter {
		t.Errorf("%s: site %d, counter %d; want %d, %d", what, c.Site(), c.Now(), site, counter)
	}
}

// gives fails the test where a clock's next stamp is another one, or isn't its counter's.
func gives(t *testing.T, what string, c *stamp.Clock, want api.Stamp) {
	t.Helper()
	if s, e := c.Next(); e != api.OK || s != want {
		t.Errorf("%s: Next: %v, error %d; want %v", what, s, e, want)
	}
	stands(t, what+", behind Next", c, want.Site, want.Counter)
}

// isSpent fails the test where a clock gives a stamp, or changes, when it has told all its numbers.
func isSpent(t *testing.T, what string, c *stamp.Clock) {
	t.Helper()
	site := c.Site()
	for i := range 5 {
		if s, e := c.Next(); e != api.ErrSpent || s != (api.Stamp{}) {
			t.Errorf("%s: Next, time %d: %v, error %d; want none, %d", what, i, s, e, api.ErrSpent)
		}
		stands(t, fmt.Sprint(what, ", time ", i), c, site, greatest)
	}
}

// P4.1: Good.

func TestStampsThatMayBe(t *testing.T) {
	for _, counter := range counters {
		for _, site := range sites {
			if !stamp.Good(at(counter, site)) {
				t.Error(counter, site, " may not be")
			}
		}
	}
}

func TestStampsThatMayNotBe(t *testing.T) {
	for _, s := range mayNotBe() {
		if stamp.Good(s) {
			t.Error(s, " may be")
		}
	}
	if stamp.Good(api.Stamp{}) {
		t.Error("the zero stamp may be")
	}
}

// P4.1: Compare.

func TestCompare(t *testing.T) {
	for i, k := range []struct {
		a, b api.Stamp
		want int
	}{
		{at(1, 2), at(2, 1), -1}, // the counter tells, whatever the sites are
		{at(2, 1), at(1, 2), 1},
		{at(1, 11), at(2, 0), -1},
		{at(greatest, 0), at(greatest-1, 11), 1},
		{at(5, 1), at(5, 2), -1}, // one counter: the site tells
		{at(5, 2), at(5, 1), 1},
		{at(1, 0), at(1, 11), -1},
		{at(greatest, 11), at(greatest, 0), 1},
		{at(5, 2), at(5, 2), 0},
		{at(greatest, 11), at(greatest, 11), 0},
		{at(1, 0), at(1, 0), 0},
		{api.Stamp{}, api.Stamp{}, 0},
		{api.Stamp{}, at(1, 0), -1},
		{at(-1, 0), api.Stamp{}, -1},
		{at(0, -1), api.Stamp{}, -1},
		{at(1<<32, 0), at(greatest, 0), 1},
		{at(1<<32+1, 0), at(1, 0), 1},
		{at(math.MinInt, 0), at(math.MaxInt, 0), -1},
		{at(math.MaxInt, 0), at(math.MinInt, 0), 1},
		{at(0, math.MinInt), at(0, math.MaxInt), -1},
		{at(0, math.MaxInt), at(0, math.MinInt), 1},
		{at(math.MaxInt, math.MinInt), at(math.MinInt, math.MaxInt), 1},
	} {
		if got := stamp.Compare(k.a, k.b); got != k.want {
			t.Errorf("%d: %v and %v: %d, want %d", i, k.a, k.b, got, k.want)
		}
	}
}

func TestCompareIsOneOrder(t *testing.T) {
	l := rising()
	for i, a := range l {
		for j, b := range l {
			want := 0
			if i < j {
				want = -1
			} else if i > j {
				want = 1
			}
			if got := stamp.Compare(a, b); got != want {
				t.Errorf("%v and %v: %d, want %d", a, b, got, want)
			}
		}
	}
}

// P4.1: Latest.

func TestLatest(t *testing.T) {
	for i, k := range []struct {
		l    []api.Stamp
		want api.Stamp
	}{
		{nil, api.Stamp{}},
		{[]api.Stamp{}, api.Stamp{}},
		{[]api.Stamp{at(1, 0)}, at(1, 0)},
		{[]api.Stamp{at(greatest, 11)}, at(greatest, 11)},
		{[]api.Stamp{at(7, 3), at(7, 3)}, at(7, 3)},
		{[]api.Stamp{at(1, 3), at(2, 0), at(2, 1)}, at(2, 1)},
		{[]api.Stamp{at(2, 1), at(2, 0), at(1, 3)}, at(2, 1)},
		{[]api.Stamp{at(1, 11), at(3, 0), at(2, 11)}, at(3, 0)},
		{[]api.Stamp{at(5, 0), at(5, 11), at(5, 10)}, at(5, 11)},
		{[]api.Stamp{at(greatest-1, 11), at(greatest, 0)}, at(greatest, 0)},
	} {
		if got := stamp.Latest(k.l...); got != k.want {
			t.Errorf("%d: of %v: %v, want %v", i, k.l, got, k.want)
		}
	}
	if got := stamp.Latest(); got != (api.Stamp{}) {
		t.Error("of none: ", got)
	}
}

func TestLatestOfStampsThatMayNotBe(t *testing.T) {
	for i, k := range []struct {
		l    []api.Stamp
		want api.Stamp
	}{
		{[]api.Stamp{{}}, api.Stamp{}},
		{[]api.Stamp{at(-1, 5)}, at(-1, 5)}, // also if the zero stamp is later
		{[]api.Stamp{at(-3, 5), at(-2, 0), at(-2, -1)}, at(-2, 0)},
		{[]api.Stamp{at(0, -1), at(0, -2)}, at(0, -1)},
		{[]api.Stamp{at(-1, 0), {}, at(-2, 0)}, api.Stamp{}},
		{[]api.Stamp{at(1<<32, 0), at(greatest, 11)}, at(1<<32, 0)}, // also if only the other one may be
		{[]api.Stamp{at(1, 12), at(1, 11)}, at(1, 12)},
		{[]api.Stamp{at(math.MinInt, math.MinInt)}, at(math.MinInt, math.MinInt)},
		{[]api.Stamp{at(math.MinInt, math.MaxInt), at(math.MaxInt, math.MinInt)}, at(math.MaxInt, math.MinInt)},
		{[]api.Stamp{at(math.MaxInt, math.MinInt), at(math.MaxInt, math.MaxInt)}, at(math.MaxInt, math.MaxInt)},
	} {
		if got := stamp.Latest(k.l...); got != k.want {
			t.Errorf("%d: of %v: %v, want %v", i, k.l, got, k.want)
		}
	}
	for _, s := range mayNotBe() {
		if got := stamp.Latest(s); got != s {
			t.Errorf("of %v alone: %v", s, got)
		}
	}
}

func TestLatestOfAnyStamps(t *testing.T) {
	d := rand.New(rand.NewSource(1))
	all := rising()
	for range 3000 {
		l := make([]api.Stamp, 1+d.Intn(9))
		last := 0
		for i := range l {
			n := d.Intn(len(all))
			l[i], last = all[n], max(last, n)
		}
		if got := stamp.Latest(l...); got != all[last] {
			t.Fatalf("of %v: %v, want %v", l, got, all[last])
		}
	}
}

func TestLatestOfMany(t *testing.T) {
	l := make([]api.Stamp, 100000)
	for i := range l {
		l[i] = at(1+i*7919%len(l), i%12)
	}
	if got := stamp.Latest(l...); got.Counter != len(l) {
		t.Error(got)
	}
}

// P4.2: New.

func TestNew(t *testing.T) {
	for _, site := range sites {
		for _, from := range append([]int{0}, counters...) {
			c := clock(t, site, from)
			stands(t, fmt.Sprint("new, of ", site, " from ", from), c, site, from)
		}
	}
}

func TestNewOfNoSite(t *testing.T) {
	for _, site := range noSites {
		for _, from := range slices.Concat([]int{0}, counters, noCounters) {
			if c, e := stamp.New(site, from); e != api.ErrArg || c != nil {
				t.Errorf("of %d from %d: %v, error %d; want none, %d", site, from, c, e, api.ErrArg)
			}
		}
	}
}

func TestNewFromNoCounter(t *testing.T) {
	for _, site := range sites {
		for _, from := range noCounters {
			if from == 0 { // a clock may have it, but a stamp may not
				continue
			}
			if c, e := stamp.New(site, from); e != api.ErrRange || c != nil {
				t.Errorf("of %d from %d: %v, error %d; want none, %d", site, from, c, e, api.ErrRange)
			}
		}
	}
}

// P4.2: Next.

func TestNext(t *testing.T) {
	for _, site := range sites {
		for _, from := range []int{0, 1, 5, 255, 256, 65535, 1<<31 - 2, 1<<31 - 1, 1 << 31, greatest - 6} {
			c := clock(t, site, from)
			for i := 1; i <= 6; i++ {
				gives(t, fmt.Sprint("of ", site, " from ", from), c, at(from+i, site))
			}
		}
	}
}

func TestNextToTheLast(t *testing.T) {
	for _, site := range sites {
		c := clock(t, site, greatest-1)
		gives(t, "the last", c, at(greatest, site))
		isSpent(t, "behind the last", c)
	}
	c := clock(t, 7, greatest-2)
	gives(t, "the last but one", c, at(greatest-1, 7))
	gives(t, "the last", c, at(greatest, 7))
	isSpent(t, "behind the last", c)
}

func TestNextOfASpentClock(t *testing.T) {
	for _, site := range sites {
		c := clock(t, site, greatest)
		isSpent(t, "spent from the beginning", c)
		for _, s := range []api.Stamp{at(1, 0), at(greatest, 11), at(1<<32, 0), at(math.MaxInt, 0)} {
			if c.See(s) {
				t.Error("a spent clock rose at ", s)
			}
		}
		isSpent(t, "behind some that were seen", c)
	}
}

// P4.2: See.

func TestSee(t *testing.T) {
	for i, k := range []struct {
		from int
		s    api.Stamp
		rose bool
	}{
		{0, at(1, 0), true},
		{0, at(greatest, 0), true},
		{5, at(4, 11), false}, // below
		{5, at(5, 11), false}, // just at: whatever its site is
		{5, at(5, 3), false},
		{5, at(5, 0), false},
		{5, at(6, 0), true}, // above, and so
		{5, at(6, 11), true},
		{5, at(1, 0), false},
		{5, at(1<<31, 4), true},
		{greatest - 1, at(greatest-2, 0), false},
		{greatest - 1, at(greatest-1, 0), false},
		{greatest - 1, at(greatest, 0), true},
		{greatest, at(greatest-1, 11), false},
		{greatest, at(greatest, 11), false},
		{1 << 31, at(1<<31-1, 0), false},
		{1 << 31, at(1<<31, 0), false},
		{1 << 31, at(1<<31+1, 0), true},
		{1<<31 - 1, at(1<<31, 0), true},
	} {
		c := clock(t, 3, k.from)
		if c.See(k.s) != k.rose {
			t.Errorf("%d: at %d, %v seen: %v, want %v", i, k.from, k.s, !k.rose, k.rose)
		}
		now := k.from
		if k.rose {
			now = k.s.Counter
		}
		stands(t, fmt.Sprint(i, ": seen"), c, 3, now)
		if c.See(k.s) {
			t.Errorf("%d: %v seen again: the clock rose again", i, k.s)
		}
		stands(t, fmt.Sprint(i, ": seen again"), c, 3, now)
		if now < greatest {
			gives(t, fmt.Sprint(i, ": behind it"), c, at(now+1, 3))
		} else {
			isSpent(t, fmt.Sprint(i, ": behind it"), c)
		}
	}
}

func TestSeeOfEachSite(t *testing.T) {
	for _, site := range sites {
		c := clock(t, 5, 40)
		if !c.See(at(50, site)) {
			t.Error("not seen, of ", site)
		}
		gives(t, fmt.Sprint("behind one of ", site), c, at(51, 5))
	}
}

func TestSeeOfStampsThatMayNotBe(t *testing.T) {
	for _, from := range []int{0, 5, greatest - 1, greatest} {
		c := clock(t, 3, from)
		for _, s := range mayNotBe() {
			if c.See(s) {
				t.Errorf("at %d, %v seen: true", from, s)
			}
			stands(t, fmt.Sprint("at ", from, ", behind ", s), c, 3, from)
		}
		if c.See(api.Stamp{}) {
			t.Error("the zero stamp was seen")
		}
		if from < greatest {
			gives(t, "behind all of them", c, at(from+1, 3))
		} else {
			isSpent(t, "behind all of them", c)
		}
	}
}

func TestExample(t *testing.T) {
	c := clock(t, 2, 5)
	gives(t, "the first", c, at(6, 2))
	if !c.See(at(9, 0)) {
		t.Error("9, 0 isn't above 6")
	}
	gives(t, "behind 9, 0", c, at(10, 2))
}

func TestSeesItsOwn(t *testing.T) {
	c := clock(t, 2, 5)
	s, _ := c.Next()
	if c.See(s) {
		t.Error("its own stamp is above it")
	}
	stands(t, "behind its own", c, 2, 6)
	if !c.See(at(9, 2)) { // of its site, but not given by it
		t.Error("9, 2 isn't above 6")
	}
	gives(t, "behind 9, 2", c, at(10, 2))
}

// P4.3, and P1, K6: whatever is called, in whatever order.

// anyStamp draws one near a counter, or far from it, that may be or not.
func anyStamp(d *rand.Rand, near int) api.Stamp {
	s := at(near-3+d.Intn(7), d.Intn(12))
	if d.Intn(6) == 0 {
		s.Counter = slices.Concat(counters, noCounters)[d.Intn(len(counters)+len(noCounters))]
	}
	if d.Intn(6) == 0 {
		s.Site = noSites[d.Intn(len(noSites))]
	}
	return s
}

// plainlyGood is what the document says of a stamp that may be.
func plainlyGood(s api.Stamp) bool {
	return s.Counter >= 1 && s.Counter <= greatest && s.Site >= 0 && s.Site <= 11
}

// goes calls a clock in an order that is drawn, and holds it against the document's words.
func goes(t *testing.T, d *rand.Rand, site, from int) {
	t.Helper()
	c := clock(t, site, from)
	now := from
	var ahead []api.Stamp // given, or seen
	for range 60 {
		switch d.Intn(3) {
		case 0:
			s := anyStamp(d, now)
			rises := plainlyGood(s) && s.Counter > now
			if c.See(s) != rises {
				t.Fatalf("at %d, %v seen: %v, want %v", now, s, !rises, rises)
			}
			if rises {
				now = s.Counter
			}
			if plainlyGood(s) {
				ahead = append(ahead, s)
			}
		case 1:
			s, e := c.Next()
			if now == greatest {
				if e != api.ErrSpent || s != (api.Stamp{}) {
					t.Fatalf("spent: %v, error %d", s, e)
				}
				break
			}
			now++
			if e != api.OK || s != at(now, site) || !stamp.Good(s) {
				t.Fatalf("%v, error %d; want %d, %d", s, e, now, site)
			}
			for _, a := range ahead {
				if stamp.Compare(s, a) != 1 || stamp.Compare(a, s) != -1 {
					t.Fatalf("%v isn't later than %v", s, a)
				}
			}
			ahead = append(ahead, s)
		}
		stands(t, "behind a call", c, site, now)
	}
}

func TestAnyCallsInAnyOrder(t *testing.T) {
	d := rand.New(rand.NewSource(2))
	for range 200 {
		for _, from := range []int{0, 1, 5, 1<<31 - 3, greatest - 20, greatest - 2, greatest - 1, greatest} {
			goes(t, d, d.Intn(12), from)
		}
	}
}

func TestClocksOfAllSitesGiveUnlikeStamps(t *testing.T) {
	d := rand.New(rand.NewSource(3))
	var clocks []*stamp.Clock
	for _, site := range sites {
		clocks = append(clocks, clock(t, site, d.Intn(4)))
	}
	given := map[api.Stamp]bool{}
	var last api.Stamp
	for range 5000 {
		c := clocks[d.Intn(len(clocks))]
		if d.Intn(3) == 0 {
			c.See(last)
		}
		s, e := c.Next()
		if e != api.OK || given[s] {
			t.Fatalf("%v, error %d: given before: %v", s, e, given[s])
		}
		given[s], last = true, s
	}
}

func TestClocksHaveNothingInCommon(t *testing.T) {
	a, b, other := clock(t, 3, 5), clock(t, 3, 5), clock(t, 4, 100)
	gives(t, "the one", a, at(6, 3))
	a.See(at(50, 0))
	stands(t, "the other one of that site", b, 3, 5)
	stands(t, "that of another site", other, 4, 100)
	gives(t, "the other one of that site", b, at(6, 3))
	gives(t, "that of another site", other, at(101, 4))
	stands(t, "the one, behind the others", a, 3, 50)
}

// atOnce calls do for each of so many askers, all of them at once.
func atOnce(askers int, do func(i int)) {
	var ready, all sync.WaitGroup
	ready.Add(askers)
	for i := range askers {
		all.Go(func() {
			ready.Done()
			ready.Wait() // else the first ones are through when the last ones begin
			do(i)
		})
	}
	all.Wait()
}

// A counter is atomic: who asks at once is given unlike stamps, each later than what he saw.
func TestNextAndSeeAtOnce(t *testing.T) {
	const askers, each = 8, 20000
	c := clock(t, 3, 0)
	var given [askers][each]api.Stamp
	atOnce(askers, func(i int) {
		var seen api.Stamp
		for j := range each {
			if j%5 == i%5 {
				seen = at(c.Now()+1+i%3, i)
				c.See(seen)
			}
			s, e := c.Next()
			if e != api.OK || stamp.Compare(s, seen) != 1 || j > 0 && stamp.Compare(s, given[i][j-1]) != 1 {
				t.Errorf("%v, error %d, behind %v seen", s, e, seen)
				return
			}
			given[i][j] = s
		}
	})
	once := map[api.Stamp]bool{}
	for _, l := range given {
		for _, s := range l {
			if once[s] {
				t.Fatal(s, " was given twice")
			}
			once[s] = true
		}
	}
}

func TestTheLastOnesAtOnce(t *testing.T) {
	const askers, each, left = 8, 20000, 100000
	c := clock(t, 3, greatest-left)
	var given [askers]int
	atOnce(askers, func(i int) {
		for range each {
			if _, e := c.Next(); e == api.OK {
				given[i]++
			}
		}
	})
	sum := 0
	for _, n := range given {
		sum += n
	}
	if sum != left {
		t.Errorf("%d stamps given, where %d were left", sum, left)
	}
	isSpent(t, "behind all of them", c)
}

// P2, K5: what is handed in.

func TestWhatIsHandedInIsNotChanged(t *testing.T) {
	// There is room behind: nothing may be written there, either.
	l := []api.Stamp{at(3, 1), at(9, 0), at(-1, 12), at(9, 2), at(9, 1), {}, at(20, 0), at(1<<32, 0)}
	before := slices.Clone(l)
	for n := range len(l) + 1 {
		stamp.Latest(l[:n]...)
		if !slices.Equal(l, before) {
			t.Fatalf("Latest of %d changed what was handed in: %v", n, l)
		}
	}
}

func TestWhatIsHandedInIsNotKept(t *testing.T) {
	l := []api.Stamp{at(3, 1), at(9, 2), at(4, 0)}
	first := stamp.Latest(l...)
	l[1] = at(1, 0)
	if first != at(9, 2) {
		t.Error("an answer changed with what was handed in: ", first)
	}
	if second := stamp.Latest(l...); second != at(4, 0) {
		t.Error("what was handed in earlier is kept: ", second)
	}
	if none := stamp.Latest(); none != (api.Stamp{}) {
		t.Error("what was handed in earlier is kept, of none: ", none)
	}

	c := clock(t, 3, 5)
	s := at(9, 0)
	c.See(s)
	s.Counter, s.Site = 90, 1
	stands(t, "a stamp changed behind See", c, 3, 9)
	given, _ := c.Next()
	given.Counter, given.Site = 70, 4
	stands(t, "an answer of Next changed", c, 3, 10)
	gives(t, "an answer of Next changed", c, at(11, 3))
}

func TestTheSameAnswersToTheSame(t *testing.T) {
	l := rising()
	for _, s := range append(l, mayNotBe()...) {
		good, order, last := stamp.Good(s), stamp.Compare(s, l[40]), stamp.Latest(l[40], s)
		c := clock(t, 1, 7)
		c.See(s)
		c.Next()
		if stamp.Good(s) != good || stamp.Compare(s, l[40]) != order || stamp.Latest(l[40], s) != last {
			t.Error("answers hang on earlier calls: ", s)
		}
	}
}
