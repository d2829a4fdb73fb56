package setup_test

import (
	"fmt"
	"math"
	"math/rand"
	"reflect"
	"testing"

	"quidnunc/api"
	"quidnunc/replica"
	"quidnunc/setup"
)

const oldest = 1<<31 - 1

// The numbers' places.
const (
	nodes = iota
	quota
	retain
	t1
	t2
	active
	passive
	walk
	drop
	swap
	beat
	silence
	seen
	wait
	hot
	limit
	pull
	chunk
	full
	capacity
	none // no number's place
)

var names = []string{
	"Nodes", "Quota", "Retain", "T1", "T2", "Active", "Passive", "Walk", "Drop", "Swap",
	"Beat", "Silence", "Seen", "Wait", "Hot", "Limit", "Pull", "Chunk", "Full", "Cap",
}

// example is the chapter's example; what that doesn't name is the least that may be.
func example() setup.Config {
	return setup.Config{
		Nodes: 2, Quota: 2, Retain: 1, Active: 1, Passive: 1, Walk: 1, Swap: 1, Beat: 1, Silence: 1,
		Seen: 1, Wait: 1, Hot: 1, Limit: 1, Chunk: 4, Full: 1, Cap: 16,
	}
}

// middle has numbers that are neither the least nor the greatest, where there are such ones.
func middle() setup.Config {
	return setup.Config{
		Nodes: 5, Quota: 4, Retain: 2, T1: 100000, T2: 200000, Active: 3, Passive: 6, Walk: 4, Drop: 2, Swap: 3,
		Beat: 2, Silence: 9, Seen: 20, Wait: 3, Hot: 4, Limit: 2, Pull: 1, Chunk: 3, Full: 4, Cap: 100,
	}
}

// greatest has the greatest numbers that may be.
func greatest() setup.Config {
	return setup.Config{
		Nodes: 12, Quota: 16, Retain: 12, T1: oldest, T2: oldest, Active: 6, Passive: 11, Walk: 8, Drop: 8, Swap: 8,
		Beat: 16, Silence: 64, Seen: 64, Wait: 16, Hot: 16, Limit: 8, Pull: 1, Chunk: 8, Full: 8, Cap: 512,
	}
}

// fine gives configurations that may be, with expiry and without.
func fine() []setup.Config {
	return []setup.Config{
		example(), middle(), greatest(),
		with(example(), t1, 284, t2, 284), with(middle(), t1, 0, t2, 0), with(greatest(), t1, 0, t2, 0),
	}
}

// with gives a configuration of which numbers, told by places and numbers by turns, are others. It goes by the
// order of the fields, not by List and Of.
func with(c setup.Config, turns ...int) setup.Config {
	fields := reflect.ValueOf(&c).Elem()
	for i := 0; i < len(turns); i += 2 {
		fields.Field(turns[i]).SetInt(int64(turns[i+1]))
	}
	return c
}

// numbersOf gives a configuration's numbers by the order of its fields.
func numbersOf(c setup.Config) []int {
	fields := reflect.ValueOf(c)
	l := make([]int, fields.NumField())
	for i := range l {
		l[i] = int(fields.Field(i).Int())
	}
	return l
}

func in(n, from, to int) bool { return from <= n && n <= to }

// firstWrong gives the place of the first number that isn't as the chapter's table says; none without one.
func firstWrong(c setup.Config) int {
	keeps := c.T1 == 0 && c.T2 == 0 || c.T1 != 0 && in(c.T2, c.T1, oldest)
	for place, ok := range []bool{
		in(c.Nodes, 2, 12), in(c.Quota, 1, 16), in(c.Retain, 1, c.Nodes), in(c.T1, 0, oldest), keeps,
		in(c.Active, 1, 6), in(c.Passive, 1, 11),
		in(c.Walk, 1, 8), in(c.Drop, 0, c.Walk), in(c.Swap, 1, 8),
		in(c.Beat, 1, 16), in(c.Silence, c.Beat, 64),
		in(c.Seen, 1, 64), in(c.Wait, 1, 16),
		in(c.Hot, 1, 16), in(c.Limit, 1, 8), c.Pull == 0 || c.Pull == 1,
		in(c.Chunk, 1, 8), in(c.Full, 1, 8), in(c.Cap, 1, 512),
	} {
		if !ok {
			return place
		}
	}
	return none
}

// drawGood draws a configuration that may be.
func drawGood(d *rand.Rand) setup.Config {
	upTo := func(from, to int) int { return from + d.Intn(to-from+1) }
	c := setup.Config{
		Nodes: upTo(2, 12), Quota: upTo(1, 16), Active: upTo(1, 6), Passive: upTo(1, 11), Walk: upTo(1, 8),
		Swap: upTo(1, 8), Beat: upTo(1, 16), Seen: upTo(1, 64), Wait: upTo(1, 16), Hot: upTo(1, 16),
		Limit: upTo(1, 8), Pull: upTo(0, 1), Chunk: upTo(1, 8), Full: upTo(1, 8), Cap: upTo(1, 512),
	}
	c.Retain, c.Drop, c.Silence = upTo(1, c.Nodes), upTo(0, c.Walk), upTo(c.Beat, 64)
	if d.Intn(2) == 0 {
		c.T1 = upTo(1, 1<<(1+d.Intn(31))-1)
		c.T2 = upTo(c.T1, oldest)
	}
	return c
}

// far are numbers that no number of a configuration may be, among them those whose lowest bytes are 1.
var far = []int{
	math.MinInt, math.MinInt + 1, -1 << 32, 1 - 1<<32, -1 << 31, -256, -255, -2, -1,
	1 << 31, 1<<31 + 1, 1<<32 - 1, 1 << 32, 1<<32 + 1, 1<<40 + 1, math.MaxInt - 1, math.MaxInt,
}

// drawAny draws a configuration that may be, of which some numbers are others then.
func drawAny(d *rand.Rand) setup.Config {
	c := drawGood(d)
	for range d.Intn(4) {
		place := d.Intn(setup.Fields)
		n := d.Intn(70) - 2
		if d.Intn(3) == 0 {
			n = far[d.Intn(len(far))]
		}
		c = with(c, place, n)
	}
	return c
}

// tellsOf fails the test where Check answers another place, or another error than the place asks for.
func tellsOf(t *testing.T, what string, c setup.Config, place int) {
	t.Helper()
	want := api.ErrConfig
	if place == none {
		place, want = 0, api.OK
	}
	if at, e := setup.Check(c); at != place || e != want {
		t.Errorf("%s: place %d, error %d; want %d, %d: %+v", what, at, e, place, want, c)
	}
}

// The types and constants.

func TestFieldsInOrder(t *testing.T) {
	of := reflect.TypeFor[setup.Config]()
	if of.NumField() != len(names) || setup.Fields != 20 || setup.Patience != 4 {
		t.Fatal(of.NumField(), setup.Fields, setup.Patience)
	}
	for i, name := range names {
		if f := of.Field(i); f.Name != name || f.Type.Kind() != reflect.Int || f.Anonymous {
			t.Error(i, f.Name, f.Type, "want", name)
		}
	}
}

// P13.1: List and Of.

func TestListAndOf(t *testing.T) {
	c := setup.Config{
		Nodes: 100, Quota: 101, Retain: 102, T1: 103, T2: 104, Active: 105, Passive: 106, Walk: 107, Drop: 108,
		Swap: 109, Beat: 110, Silence: 111, Seen: 112, Wait: 113, Hot: 114, Limit: 115, Pull: 116, Chunk: 117,
		Full: 118, Cap: 119,
	}
	var l [setup.Fields]int
	for i := range l {
		l[i] = 100 + i
	}
	if got := setup.List(c); got != l {
		t.Error(got)
	}
	if got := setup.Of(l); got != c {
		t.Errorf("%+v", got)
	}
}

// One number at a time, so that no two of them share a place.
func TestListAndOfOfEachNumber(t *testing.T) {
	for place := range setup.Fields {
		for _, n := range append([]int{0, 1, 2, 12, 255, oldest}, far...) {
			var l [setup.Fields]int
			l[place] = n
			c := with(setup.Config{}, place, n)
			if setup.List(c) != l || setup.Of(l) != c {
				t.Error(names[place], n, setup.List(c), setup.Of(l))
			}
		}
	}
}

func TestListAndOfAreEachOthersWayBack(t *testing.T) {
	d := rand.New(rand.NewSource(1))
	for range 2000 {
		var l [setup.Fields]int
		for i := range l {
			l[i] = int(d.Uint64()) >> d.Intn(64)
		}
		was := l
		c := setup.Of(l)
		if setup.List(c) != was || l != was || setup.Of(setup.List(c)) != c || fmt.Sprint(numbersOf(c)) != fmt.Sprint(l) {
			t.Fatal(l, c)
		}
		g := drawAny(d)
		if setup.Of(setup.List(g)) != g {
			t.Fatal(g)
		}
	}
}

// P13.1: Check.

// edges are the least and the greatest of numbers, in the middle configuration with others turned.
var edges = []struct {
	place, from, to int
	turned          []int
}{
	{nodes, 2, 12, []int{retain, 1}},
	{quota, 1, 16, nil},
	{retain, 1, 2, []int{nodes, 2}},
	{retain, 1, 5, nil},
	{retain, 1, 11, []int{nodes, 11}},
	{retain, 1, 12, []int{nodes, 12}},
	{t1, 0, 0, []int{t1, 0, t2, 0}},
	{t2, 0, 0, []int{t1, 0}},
	{t2, 1, oldest, []int{t1, 1}},
	{t2, 100000, oldest, nil},
	{t2, oldest - 1, oldest, []int{t1, oldest - 1}},
	{t2, oldest, oldest, []int{t1, oldest}},
	{active, 1, 6, nil},
	{passive, 1, 11, nil},
	{walk, 1, 8, []int{drop, 0}},
	{drop, 0, 1, []int{walk, 1}},
	{drop, 0, 4, nil},
	{drop, 0, 8, []int{walk, 8}},
	{swap, 1, 8, nil},
	{beat, 1, 16, []int{silence, 64}},
	{beat, 1, 16, []int{silence, 16}},
	{silence, 1, 64, []int{beat, 1}},
	{silence, 2, 64, nil},
	{silence, 16, 64, []int{beat, 16}},
	{seen, 1, 64, nil},
	{wait, 1, 16, nil},
	{hot, 1, 16, nil},
	{limit, 1, 8, nil},
	{pull, 0, 1, nil},
	{chunk, 1, 8, nil},
	{full, 1, 8, nil},
	{capacity, 1, 512, nil},
}

func TestCheckAtTheEdges(t *testing.T) {
	asked := map[int]bool{}
	for _, x := range edges {
		asked[x.place] = true
		if x.place == t1 {
			continue // TestTheTicks: T2's bounds hang on it
		}
		base := with(middle(), x.turned...)
		at := func(n int) setup.Config { return with(base, x.place, n) }
		for _, n := range []int{x.from, x.to, (x.from + x.to) / 2} {
			tellsOf(t, fmt.Sprint(names[x.place], " ", n, ", may be"), at(n), none)
		}
		for _, n := range append([]int{x.from - 1, x.to + 1}, far...) {
			tellsOf(t, fmt.Sprint(names[x.place], " ", n, ", may not be"), at(n), x.place)
		}
	}
	if len(asked) != setup.Fields {
		t.Error("numbers were left out", asked)
	}
}

func TestCheckOfWhatMayBe(t *testing.T) {
	for _, c := range fine() {
		tellsOf(t, "may be", c, none)
	}
	least := setup.Config{
		Nodes: 2, Quota: 1, Retain: 1, Active: 1, Passive: 1, Walk: 1, Swap: 1, Beat: 1, Silence: 1, Seen: 1,
		Wait: 1, Hot: 1, Limit: 1, Chunk: 1, Full: 1, Cap: 1,
	}
	tellsOf(t, "the least", least, none)
	for place, n := range numbersOf(least) {
		tellsOf(t, names[place]+" below the least", with(least, place, n-1), place)
	}
	for place, n := range numbersOf(greatest()) {
		tellsOf(t, names[place]+" above the greatest", with(greatest(), place, n+1), place)
	}
}

func TestTheTicks(t *testing.T) {
	for _, x := range []struct{ t1, t2, place int }{
		{0, 0, none}, {0, 1, t2}, {0, 2, t2}, {0, oldest, t2}, {0, oldest + 1, t2}, {0, -1, t2}, {0, math.MinInt, t2},
		{1, 1, none}, {1, 2, none}, {1, oldest, none}, {1, 0, t2}, {1, -1, t2}, {1, oldest + 1, t2},
		{7, 6, t2}, {7, 7, none}, {7, 8, none}, {7, 0, t2}, {7, math.MaxInt, t2}, {7, 1<<32 + 7, t2},
		{oldest - 1, oldest - 2, t2}, {oldest - 1, oldest - 1, none}, {oldest - 1, oldest, none},
		{oldest, oldest, none}, {oldest, oldest - 1, t2}, {oldest, oldest + 1, t2}, {oldest, 0, t2},
		{-1, -1, t1}, {-1, 0, t1}, {-1, 1, t1}, {-1, oldest, t1}, {math.MinInt, math.MinInt, t1}, {math.MinInt, 0, t1},
		{oldest + 1, oldest + 1, t1}, {oldest + 1, oldest, t1}, {oldest + 1, 0, t1},
		{1 << 32, 0, t1}, {1 << 32, 1 << 32, t1}, {math.MaxInt, math.MaxInt, t1}, {math.MaxInt, oldest, t1},
	} {
		for _, c := range []setup.Config{example(), middle(), greatest()} {
			tellsOf(t, fmt.Sprint("T1 ", x.t1, ", T2 ", x.t2), with(c, t1, x.t1, t2, x.t2), x.place)
		}
	}
}

// A number that another one's bounds hang on is told first, whether the other one fits it or not.
func TestBoundsThatHangOnWhatMayNotBe(t *testing.T) {
	for _, x := range []struct {
		turned []int
		place  int
	}{
		{[]int{nodes, 13, retain, 13}, nodes}, {[]int{nodes, 13, retain, 1}, nodes}, {[]int{nodes, 1, retain, 1}, nodes},
		{[]int{nodes, 0, retain, 0}, nodes}, {[]int{nodes, -3, retain, 1}, nodes}, {[]int{nodes, math.MaxInt, retain, 12}, nodes},
		{[]int{walk, 9, drop, 9}, walk}, {[]int{walk, 9, drop, 0}, walk}, {[]int{walk, 0, drop, 0}, walk},
		{[]int{walk, -1, drop, -1}, walk}, {[]int{walk, math.MaxInt, drop, 8}, walk},
		{[]int{beat, 17, silence, 17}, beat}, {[]int{beat, 17, silence, 64}, beat}, {[]int{beat, 0, silence, 0}, beat},
		{[]int{beat, 65, silence, 65}, beat}, {[]int{beat, math.MinInt, silence, math.MinInt}, beat},
		{[]int{nodes, 3, retain, 4}, retain}, {[]int{walk, 3, drop, 4}, drop}, {[]int{beat, 5, silence, 4}, silence},
	} {
		tellsOf(t, fmt.Sprint(x.turned), with(middle(), x.turned...), x.place)
	}
}

// Of several numbers that may not be the first one is told.
func TestTheFirstOfSeveral(t *testing.T) {
	for _, n := range []int{math.MinInt, -1, 1 << 31, 1<<32 + 1, math.MaxInt} {
		for _, c := range fine() {
			for first := range setup.Fields {
				for second := first; second < setup.Fields; second++ {
					tellsOf(t, "two", with(c, second, n, first, n), first)
				}
				all := c
				for place := first; place < setup.Fields; place++ {
					all = with(all, place, n)
				}
				tellsOf(t, "all from one on", all, first)
			}
		}
	}
	tellsOf(t, "the zero configuration", setup.Config{}, nodes)
	tellsOf(t, "Nodes alone", setup.Config{Nodes: 12}, quota)
}

func TestCheckOfAny(t *testing.T) {
	d := rand.New(rand.NewSource(2))
	told := map[int]int{}
	for range 60000 {
		c := drawAny(d)
		place := firstWrong(c)
		told[place]++
		tellsOf(t, "drawn", c, place)
	}
	for place := range none + 1 {
		if told[place] < 50 {
			t.Error("hardly drawn: ", place, told[place])
		}
	}
}

// P13.1: Options.

func TestOptions(t *testing.T) {
	c := setup.Config{Nodes: 1, Quota: 2, Retain: 3, T1: 4, T2: 5, Active: 6, Passive: 7, Walk: 8, Drop: 9, Cap: 10}
	if got, want := setup.Options(c), (replica.Options{Nodes: 1, Quota: 2, Retain: 3, T1: 4, T2: 5}); got != want {
		t.Error(got)
	}
	d := rand.New(rand.NewSource(3))
	for range 2000 {
		c := drawAny(d)
		want := replica.Options{Nodes: c.Nodes, Quota: c.Quota, Retain: c.Retain, T1: c.T1, T2: c.T2}
		if got := setup.Options(c); got != want {
			t.Fatal(got, want)
		}
		if firstWrong(c) == none && replica.Check(setup.Options(c)) != api.OK {
			t.Fatal("no replica may be of", c)
		}
	}
}
