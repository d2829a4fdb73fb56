package table_test

import (
	"fmt"
	"iter"
	"maps"
	"math"
	"math/rand"
	"slices"
	"strings"
	"testing"

	"quidnunc/api"
	"quidnunc/table"
)

const most = 4096 // keys that there is room for at most

// keys are some that begin alike, that have the bytes 0 and 255, and that letters' order, or a text's
// length, would put elsewhere; in no order.
var keys = []string{
	"b", "abc", "", "a\x00", "\xff", "aa", "\x00", "a\xff", "Z", "ab", "a", "\x00\x00", "\xff\xff", "zz", "é",
	"a\x00\x00", "\x00\xff", "\x7f", "\x80", "z", "\xff\x00", "ab\x00", "B", "10", "9", "aaaaaaaaaaaaaaaaaaaaaaaa",
	strings.Repeat("a", 5000), strings.Repeat("a", 4999) + "b", "a\xff\xff", "\U0010ffff", "\xf8",
}

// others are keys that lie between those, below them, or above.
var others = []string{
	"\x00\x00\x00", "\x01", "\x00\xff\xff", "a\x00\x01", "a\x01", "abb", "abcd", "ac", "A", "[", "1", "100", "95", "\xc3",
	"\x7f\x7f", "\x81", "\xfe", "\xff\xff\xff", "\xff\x01", "c", "ê", strings.Repeat("a", 5001), strings.Repeat("z", 300),
}

// below tells whether a key is below another one, byte by byte.
func below(a, b string) bool {
	for i := 0; i < len(a) && i < len(b); i++ {
		if a[i] != b[i] {
			return a[i] < b[i]
		}
	}
	return len(a) < len(b)
}

// plain is a table as the document has it: keys in no order, which are held against one another when asked.
type plain[V any] struct {
	room int
	has  map[string]V
}

func newPlain[V any](room int) *plain[V] { return &plain[V]{room, map[string]V{}} }

func (p *plain[V]) put(key string, v V) api.Errno {
	if _, there := p.has[key]; !there && len(p.has) == p.room {
		return api.ErrFull
	}
	p.has[key] = v
	return api.OK
}

func (p *plain[V]) drop(key string) bool {
	_, there := p.has[key]
	delete(p.has, key)
	return there
}

func (p *plain[V]) rank(key string) int {
	n := 0
	for other := range p.has {
		if below(other, key) {
			n++
		}
	}
	return n
}

func (p *plain[V]) copy() *plain[V] { return &plain[V]{p.room, maps.Clone(p.has)} }

// all gives all pairs, rising.
func (p *plain[V]) all() []table.Pair[V] {
	var l []table.Pair[V]
	for key, v := range p.has {
		l = append(l, table.Pair[V]{Key: key, Value: v})
	}
	slices.SortFunc(l, func(a, b table.Pair[V]) int {
		switch {
		case below(a.Key, b.Key):
			return -1
		case below(b.Key, a.Key):
			return 1
		}
		return 0
	})
	return l
}

func (p *plain[V]) scan(from string, n int) []table.Pair[V] {
	var l []table.Pair[V]
	for _, pair := range p.all() {
		if !below(pair.Key, from) && len(l) < n {
			l = append(l, pair)
		}
	}
	return l
}

// is tells of an error that isn't the one that it should be.
func is(t *testing.T, what string, got, want api.Errno) {
	t.Helper()
	if got != want {
		t.Fatalf("%s: error %d, want %d", what, got, want)
	}
}

// short gives a key for a message.
func short(key string) string {
	if len(key) > 20 {
		return fmt.Sprintf("%q.. of %d", key[:20], len(key))
	}
	return fmt.Sprintf("%q", key)
}

// told gives pairs for a message.
func told[V any](l []table.Pair[V]) string {
	s := fmt.Sprint(len(l), " pairs")
	for i, p := range l {
		if i == 20 {
			return s + " .."
		}
		s += fmt.Sprint(" ", short(p.Key), "=", p.Value)
	}
	return s
}

// gathered gives all that is gone through; it gives up where there is no end.
func gathered[V any](t *testing.T, all iter.Seq2[string, V]) []table.Pair[V] {
	t.Helper()
	var l []table.Pair[V]
	for key, v := range all {
		if len(l) > most {
			t.Fatal("no end")
		}
		l = append(l, table.Pair[V]{Key: key, Value: v})
	}
	return l
}

// sameList fails the test where two lists of pairs aren't the same.
func sameList[V comparable](t *testing.T, what string, got, want []table.Pair[V]) {
	t.Helper()
	if !slices.Equal(got, want) {
		t.Fatalf("%s: %s, want %s", what, told(got), told(want))
	}
}

// gives fails the test where a key hasn't what it should.
func gives[V comparable](t *testing.T, what string, x *table.Table[V], p *plain[V], key string) {
	t.Helper()
	v, ok := x.Get(key)
	want, there := p.has[key]
	if v != want || ok != there {
		t.Fatalf("%s: Get of %s: %v, %v; want %v, %v", what, short(key), v, ok, want, there)
	}
}

// same fails the test where a table doesn't tell what it should, of any call that changes nothing.
func same[V comparable](t *testing.T, what string, x *table.Table[V], p *plain[V]) {
	t.Helper()
	if x.Len() != len(p.has) || x.Room() != p.room {
		t.Fatalf("%s: %d keys, room for %d; want %d, %d", what, x.Len(), x.Room(), len(p.has), p.room)
	}
	all := p.all()
	sameList(t, what+": All", gathered(t, x.All()), all)
	sameList(t, what+": Scan", x.Scan("", most), all)
	for i, pair := range all {
		gives(t, what, x, p, pair.Key)
		if n := x.Rank(pair.Key); n != i {
			t.Fatalf("%s: Rank of %s: %d, want %d", what, short(pair.Key), n, i)
		}
	}
	for _, key := range others {
		gives(t, what, x, p, key)
	}
}

// fresh gives a table without keys.
func fresh[V any](t *testing.T, room int) (*table.Table[V], *plain[V]) {
	t.Helper()
	x, e := table.New[V](room)
	is(t, fmt.Sprint("room for ", room), e, api.OK)
	return x, newPlain[V](room)
}

// with gives a table with just these keys, each of which has another number, and what it should tell.
func with(t *testing.T, room int, l ...string) (*table.Table[int], *plain[int]) {
	t.Helper()
	x, p := fresh[int](t, room)
	for i, key := range l {
		is(t, "put", x.Put(key, i+1), p.put(key, i+1))
	}
	return x, p
}

// row gives so many keys, rising.
func row(n int) []string {
	var l []string
	for i := range n {
		l = append(l, fmt.Sprintf("k%04d", i))
	}
	return l
}

// mixed gives the same keys in another order.
func mixed(r *rand.Rand, l []string) []string {
	l = slices.Clone(l)
	r.Shuffle(len(l), func(i, k int) { l[i], l[k] = l[k], l[i] })
	return l
}

// P8.1: New, Len, Room.

func TestExample(t *testing.T) {
	x, _ := fresh[int](t, 5)
	is(t, "b", x.Put("b", 2), api.OK)
	is(t, "a", x.Put("a", 1), api.OK)
	sameList(t, "Scan", x.Scan("", 9), []table.Pair[int]{{Key: "a", Value: 1}, {Key: "b", Value: 2}})
	if table.MaxRoom != most {
		t.Error(table.MaxRoom)
	}
}

func TestNoSuchRoom(t *testing.T) {
	for _, room := range []int{
		0, -1, -2, -most, most + 1, most + 2, 2 * most, 1 << 16, 1 << 31, 1<<32 + 1, math.MaxInt, math.MinInt, math.MinInt + 1,
	} {
		if x, e := table.New[int](room); e != api.ErrArg || x != nil {
			t.Errorf("room for %d: error %d, table %v", room, e, x != nil)
		}
		if x, e := table.New[string](room); e != api.ErrArg || x != nil {
			t.Errorf("of texts, room for %d: error %d, table %v", room, e, x != nil)
		}
	}
}

func TestEachRoom(t *testing.T) {
	for room := 1; room <= most; room++ {
		x, p := fresh[int](t, room)
		same(t, fmt.Sprint("room for ", room), x, p)
	}
}

func TestATableWithoutKeys(t *testing.T) {
	x, p := fresh[string](t, 9)
	for _, key := range slices.Concat(keys, others) {
		gives(t, "without keys", x, p, key)
		if x.Rank(key) != 0 || x.Drop(key) || len(x.Scan(key, 9)) != 0 {
			t.Fatalf("%s: %d, %s", short(key), x.Rank(key), told(x.Scan(key, 9)))
		}
	}
	same(t, "without keys", x, p)
	same(t, "the copy of one without keys", x.Copy(), p)
}

// P8.1: Put, Get.

func TestPut(t *testing.T) {
	r := rand.New(rand.NewSource(1))
	for range 20 {
		x, p := fresh[int](t, most)
		for i, key := range mixed(r, keys) {
			is(t, short(key), x.Put(key, i+1), api.OK)
			is(t, short(key), p.put(key, i+1), api.OK)
			same(t, "put: "+short(key), x, p)
		}
	}
}

func TestPutAnew(t *testing.T) {
	x, p := with(t, most, keys...)
	for i, key := range keys {
		for _, v := range []int{-i, 0, i, math.MaxInt} {
			is(t, short(key), x.Put(key, v), api.OK)
			p.has[key] = v
			same(t, "put anew: "+short(key), x, p)
		}
	}
}

func TestOneKey(t *testing.T) {
	for _, key := range slices.Concat(keys, others) {
		x, p := with(t, 1, key)
		for _, other := range slices.Concat(keys, others) {
			gives(t, "only "+short(key), x, p, other)
		}
		same(t, "only "+short(key), x, p)
	}
}

// A key that has a zero value is there: it isn't one that isn't.
func TestZeroValues(t *testing.T) {
	x, p := fresh[string](t, 2)
	is(t, "nothing put", x.Put("a", ""), api.OK)
	p.has["a"] = ""
	same(t, "nothing put", x, p)
	is(t, "nothing put to the empty text", x.Put("", ""), api.OK)
	p.has[""] = ""
	same(t, "nothing put to the empty text", x, p)
	is(t, "a third one", x.Put("b", ""), api.ErrFull)
	if !x.Drop("a") || !x.Drop("") {
		t.Fatal("it wasn't there")
	}
}

func TestFull(t *testing.T) {
	r := rand.New(rand.NewSource(2))
	for _, room := range []int{1, 2, 3, 7, 64, most - 1, most} {
		what := fmt.Sprint("room for ", room)
		l := row(room)
		x, p := with(t, room, mixed(r, l)...)
		same(t, what+", full", x, p)
		for _, key := range slices.Concat(others, []string{"", l[0] + "\x00", l[room-1] + "\x00", l[room/2][:4]}) {
			is(t, what+", one more: "+short(key), x.Put(key, -1), api.ErrFull)
			gives(t, what, x, p, key)
		}
		same(t, what+", others refused", x, p)
		for _, key := range []string{l[0], l[room/2], l[room-1]} {
			is(t, what+", put anew", x.Put(key, -2), api.OK)
			p.has[key] = -2
		}
		same(t, what+", put anew", x, p)
		if !x.Drop(l[room/2]) {
			t.Fatal("it wasn't there")
		}
		p.drop(l[room/2])
		same(t, what+", one dropped", x, p)
		is(t, what+", room for one", x.Put("", -3), p.put("", -3))
		is(t, what+", full again", x.Put(l[room/2], -4), api.ErrFull)
		same(t, what+", another one put", x, p)
	}
}

// P8.1: Drop.

func TestDrop(t *testing.T) {
	r := rand.New(rand.NewSource(3))
	for range 20 {
		x, p := with(t, len(keys), keys...)
		for _, key := range mixed(r, keys) {
			for _, other := range others {
				if x.Drop(other) {
					t.Fatal(short(other), " wasn't there")
				}
			}
			if !x.Drop(key) {
				t.Fatal(short(key), " was there")
			}
			p.drop(key)
			same(t, "dropped: "+short(key), x, p)
			gives(t, "dropped", x, p, key)
		}
	}
}

func TestDroppedAgainAndPutAgain(t *testing.T) {
	for i, key := range keys {
		x, p := with(t, len(keys), keys...)
		if !x.Drop(key) {
			t.Fatal(short(key), " was there")
		}
		p.drop(key)
		for range 3 {
			if x.Drop(key) {
				t.Fatal(short(key), " wasn't there any more")
			}
			same(t, "dropped again: "+short(key), x, p)
		}
		is(t, "put again", x.Put(key, -i), p.put(key, -i))
		same(t, "put again: "+short(key), x, p)
		if !x.Drop(key) || x.Drop(key) {
			t.Fatal(short(key), " was there once")
		}
	}
}

func TestADroppedKeyGivesItsRoom(t *testing.T) {
	x, p := with(t, 1)
	for i, key := range slices.Concat(keys, others) {
		is(t, short(key), x.Put(key, i), p.put(key, i))
		is(t, "another one", x.Put(key+"x", i), api.ErrFull)
		same(t, "alone: "+short(key), x, p)
		if !x.Drop(key) || !p.drop(key) {
			t.Fatal(short(key), " was there")
		}
	}
	same(t, "all dropped", x, p)
}

// P8.2: All.

func TestAllIsRising(t *testing.T) {
	want := []string{"", "\x00", "\x00\x00", "\x00\xff", "A", "Z", "a", "a\x00", "aa", "ab", "abc", "a\xff", "b", "é", "\xff", "\xff\x00", "\xff\xff"}
	r := rand.New(rand.NewSource(4))
	for range 50 {
		x, _ := with(t, len(want), mixed(r, want)...)
		var got []string
		for key := range x.All() {
			got = append(got, key)
		}
		if !slices.Equal(got, want) {
			t.Fatalf("%q, want %q", got, want)
		}
	}
}

func TestAllGoesNoFurther(t *testing.T) {
	x, p := with(t, len(keys), keys...)
	all := p.all()
	for n := 1; n <= len(all)+1; n++ {
		var l []table.Pair[int]
		x.All()(func(key string, v int) bool {
			l = append(l, table.Pair[int]{Key: key, Value: v})
			return len(l) < n
		})
		sameList(t, fmt.Sprint(n, " asked for"), l, all[:min(n, len(all))])
	}
	for range x.All() {
		break
	}
	same(t, "gone through in parts", x, p)
}

// walked fails the test where what was gone through isn't rising, has what never was, or hasn't what was
// there all the while, unchanged.
func walked(t *testing.T, what string, l, always []table.Pair[int], ever map[table.Pair[int]]bool) {
	t.Helper()
	for i, pair := range l {
		if i > 0 && !below(l[i-1].Key, pair.Key) {
			t.Fatalf("%s: not rising: %s", what, told(l))
		}
		if !ever[pair] {
			t.Fatalf("%s: %s=%d never was", what, short(pair.Key), pair.Value)
		}
	}
	for _, pair := range always {
		if !slices.Contains(l, pair) {
			t.Fatalf("%s: %s=%d was there all the while, but not in %s", what, short(pair.Key), pair.Value, told(l))
		}
	}
}

// changing goes through a table whose keys are changed at each of them, and holds what is told against it.
func changing(t *testing.T, what string, x *table.Table[int], p *plain[int], do func(i int, key string) (touched []string)) {
	t.Helper()
	ever := map[table.Pair[int]]bool{}
	note := func() {
		for key, v := range p.has {
			ever[table.Pair[int]{Key: key, Value: v}] = true
		}
	}
	note()
	always := p.all()
	var l []table.Pair[int]
	for key, v := range x.All() {
		if len(l) > 3*len(keys) {
			t.Fatal(what, ": no end")
		}
		touched := do(len(l), key)
		note()
		l = append(l, table.Pair[int]{Key: key, Value: v})
		always = slices.DeleteFunc(always, func(p table.Pair[int]) bool { return slices.Contains(touched, p.Key) })
	}
	walked(t, what, l, always, ever)
	same(t, what, x, p)
}

// put and drop change a table and what it should tell.
func put(t *testing.T, x *table.Table[int], p *plain[int], key string, v int) {
	t.Helper()
	is(t, "put "+short(key), x.Put(key, v), p.put(key, v))
}

func drop(t *testing.T, x *table.Table[int], p *plain[int], key string) {
	t.Helper()
	if got, want := x.Drop(key), p.drop(key); got != want {
		t.Fatalf("drop %s: %v, want %v", short(key), got, want)
	}
}

// next gives the key behind another one, if there is one.
func next(x *table.Table[int], key string) []string {
	var l []string
	for _, pair := range x.Scan(key+"\x00", 1) {
		l = append(l, pair.Key)
	}
	return l
}

// change changes a table that is gone through, at the i-th key; it gives those that needn't show as they
// were any more. What is behind was told already.
type change struct {
	what string
	do   func(t *testing.T, x *table.Table[int], p *plain[int], i int, key string) (touched []string)
}

// drops are changes by which keys go.
var drops = []change{
	{"the key itself dropped", func(t *testing.T, x *table.Table[int], p *plain[int], i int, key string) []string {
		drop(t, x, p, key)
		return nil
	}},
	{"all that is behind dropped", func(t *testing.T, x *table.Table[int], p *plain[int], i int, key string) []string {
		for _, pair := range x.Scan("", x.Rank(key)) {
			drop(t, x, p, pair.Key)
		}
		return nil
	}},
	{"the next one dropped", func(t *testing.T, x *table.Table[int], p *plain[int], i int, key string) []string {
		l := next(x, key)
		for _, k := range l {
			drop(t, x, p, k)
		}
		return l
	}},
	{"the last one dropped", func(t *testing.T, x *table.Table[int], p *plain[int], i int, key string) []string {
		l := x.Scan("", most)
		if len(l) == 0 {
			return nil
		}
		last := l[len(l)-1].Key
		drop(t, x, p, last)
		return []string{last}
	}},
	{"all dropped", func(t *testing.T, x *table.Table[int], p *plain[int], i int, key string) []string {
		for _, k := range keys {
			drop(t, x, p, k)
		}
		return keys
	}},
}

// puts are changes by which keys come, or have something else; what a key drops has room for another one.
var puts = []change{
	{"the key itself put anew", func(t *testing.T, x *table.Table[int], p *plain[int], i int, key string) []string {
		put(t, x, p, key, -9)
		return nil
	}},
	{"the next one put anew", func(t *testing.T, x *table.Table[int], p *plain[int], i int, key string) []string {
		l := next(x, key)
		for _, k := range l {
			put(t, x, p, k, -i)
		}
		return l
	}},
	{"another one put right behind", func(t *testing.T, x *table.Table[int], p *plain[int], i int, key string) []string {
		put(t, x, p, key+"\x00", 5)
		return []string{key + "\x00"}
	}},
	{"another one put ahead", func(t *testing.T, x *table.Table[int], p *plain[int], i int, key string) []string {
		put(t, x, p, "\x00\x00"+fmt.Sprint(i), 5)
		return nil
	}},
	{"the key dropped, and a greater one put", func(t *testing.T, x *table.Table[int], p *plain[int], i int, key string) []string {
		drop(t, x, p, key)
		put(t, x, p, key+"\x00", i)
		return []string{key + "\x00"}
	}},
	{"the key dropped, and one above all put", func(t *testing.T, x *table.Table[int], p *plain[int], i int, key string) []string {
		drop(t, x, p, key)
		put(t, x, p, "\xff\xff"+strings.Repeat("\xff", i), i)
		return []string{"\xff\xff"}
	}},
}

func TestATableThatIsChangedWhileItIsGoneThrough(t *testing.T) {
	for _, room := range []int{len(keys), len(keys) + 3, most} {
		for _, c := range slices.Concat(drops, puts) {
			x, p := with(t, room, keys...)
			what := fmt.Sprint("room for ", room, ", ", c.what)
			changing(t, what, x, p, func(i int, key string) []string { return c.do(t, x, p, i, key) })
		}
	}
}

func TestATableThatIsChangedAtWillWhileItIsGoneThrough(t *testing.T) {
	r := rand.New(rand.NewSource(5))
	some := slices.Concat(keys, others)
	for range 300 {
		x, p := with(t, len(keys)+r.Intn(5), mixed(r, keys)[:r.Intn(len(keys))]...)
		changing(t, "changed at will", x, p, func(i int, key string) []string {
			var touched []string
			for range r.Intn(6) {
				k := some[r.Intn(len(some))]
				if r.Intn(2) == 0 {
					put(t, x, p, k, r.Intn(100))
				} else {
					drop(t, x, p, k)
				}
				touched = append(touched, k)
			}
			return touched
		})
	}
}

func TestATableIsGoneThroughWhileItIsGoneThrough(t *testing.T) {
	x, p := with(t, len(keys), keys...)
	all := p.all()
	n := 0
	for key := range x.All() {
		sameList(t, "within", gathered(t, x.All()), all)
		sameList(t, "within", x.Scan(key, 3), p.scan(key, 3))
		if key != all[n].Key {
			t.Fatalf("%s, want %s", short(key), short(all[n].Key))
		}
		n++
	}
	if n != len(all) {
		t.Fatal(n)
	}
}

func TestOneAllIsGoneThroughTwice(t *testing.T) {
	x, p := with(t, len(keys), keys...)
	all := x.All()
	for range all {
		break
	}
	sameList(t, "first", gathered(t, all), p.all())
	sameList(t, "then", gathered(t, all), p.all())
	pull, stop := iter.Pull2(all)
	for range 3 {
		pull()
	}
	sameList(t, "beside one that isn't at its end", gathered(t, all), p.all())
	stop()
}

func TestAnAllThatIsKeptWhileTheTableIsEmptied(t *testing.T) {
	x, p := with(t, len(keys), keys...)
	ever := map[table.Pair[int]]bool{}
	for _, pair := range p.all() {
		ever[pair] = true
	}
	all := x.All()
	for _, key := range keys {
		drop(t, x, p, key)
	}
	walked(t, "emptied", gathered(t, all), nil, ever)
	put(t, x, p, "m", 77)
	ever[table.Pair[int]{Key: "m", Value: 77}] = true
	walked(t, "another one put", gathered(t, all), nil, ever)
	same(t, "at the end", x, p)
}

// P8.2: Rank.

func TestRank(t *testing.T) {
	r := rand.New(rand.NewSource(6))
	for range 50 {
		x, p := with(t, most, mixed(r, keys)[:r.Intn(len(keys)+1)]...)
		for _, key := range slices.Concat(keys, others) {
			if got, want := x.Rank(key), p.rank(key); got != want {
				t.Fatalf("%s: %d, want %d", short(key), got, want)
			}
		}
	}
}

func TestRankOfAnyKeys(t *testing.T) {
	x, _ := with(t, 9, "b", "d", "dd", "f")
	for key, want := range map[string]int{
		"": 0, "\x00": 0, "a": 0, "azz": 0, "b": 0, "b\x00": 1, "c": 1, "d": 1, "d\x00": 2, "dc": 2, "dd": 2,
		"dd\x00": 3, "e": 3, "f": 3, "f\x00": 4, "g": 4, "\xff\xff": 4,
	} {
		if n := x.Rank(key); n != want {
			t.Errorf("%q: %d, want %d", key, n, want)
		}
	}
}

func TestRankInAFullTable(t *testing.T) {
	l := row(most)
	x, _ := with(t, most, mixed(rand.New(rand.NewSource(7)), l)...)
	for i, key := range l {
		if x.Rank(key) != i || x.Rank(key+"\x00") != i+1 {
			t.Fatal(key, x.Rank(key), x.Rank(key+"\x00"))
		}
	}
	if x.Rank("") != 0 || x.Rank("z") != most {
		t.Fatal(x.Rank(""), x.Rank("z"))
	}
}

// P8.2: Scan.

func TestScan(t *testing.T) {
	x, p := with(t, len(keys), keys...)
	for _, from := range slices.Concat(keys, others) {
		left := len(keys) - p.rank(from) // just as many as there are
		for _, n := range []int{math.MinInt, -1000, -2, -1, 0, 1, 2, left - 1, left, left + 1, len(keys), most, most + 1, math.MaxInt - 1, math.MaxInt} {
			sameList(t, fmt.Sprint(n, " from ", short(from)), x.Scan(from, n), p.scan(from, n))
		}
	}
	same(t, "scanned", x, p)
}

func TestScanFromAnyPlace(t *testing.T) {
	x, _ := with(t, 9, "b", "d", "f")
	b, d, f := table.Pair[int]{Key: "b", Value: 1}, table.Pair[int]{Key: "d", Value: 2}, table.Pair[int]{Key: "f", Value: 3}
	for _, c := range []struct {
		from string
		n    int
		want []table.Pair[int]
	}{
		{"", 9, []table.Pair[int]{b, d, f}}, {"", 3, []table.Pair[int]{b, d, f}}, {"", 2, []table.Pair[int]{b, d}}, {"", 0, nil}, {"", -1, nil},
		{"b", 1, []table.Pair[int]{b}}, {"b\x00", 1, []table.Pair[int]{d}}, {"c", 9, []table.Pair[int]{d, f}}, {"d", 2, []table.Pair[int]{d, f}},
		{"d", 3, []table.Pair[int]{d, f}}, {"f", 1, []table.Pair[int]{f}}, {"f", 2, []table.Pair[int]{f}}, {"f", 0, nil}, {"f", math.MinInt, nil},
		{"f\x00", 1, nil}, {"g", 9, nil}, {"g", math.MaxInt, nil}, {"g", 0, nil}, {"g", -1, nil}, {"\xff\xff", math.MaxInt, nil},
	} {
		sameList(t, fmt.Sprintf("%d from %q", c.n, c.from), x.Scan(c.from, c.n), c.want)
	}
}

func TestScanOfAFullTable(t *testing.T) {
	l := row(most)
	x, p := with(t, most, l...)
	all := p.all()
	for i := 0; i < most; i += 97 {
		for _, n := range []int{1, 2, most - i, most - i + 1, most, math.MaxInt} {
			sameList(t, fmt.Sprint(n, " from ", l[i]), x.Scan(l[i], n), all[i:min(most, i+min(n, most))])
		}
	}
}

// P8.2: Copy.

func TestACopyHasNothingToDoWithItsTable(t *testing.T) {
	for _, room := range []int{len(keys), len(keys) + 1, most} {
		x, p := with(t, room, keys...)
		c, q := x.Copy(), p.copy()
		same(t, "a copy", c, q)
		for i, key := range keys {
			put(t, x, p, key, 1000+i)
			same(t, "put anew in the table", c, q)
			put(t, c, q, key, 2000+i)
			same(t, "put anew in the copy", x, p)
		}
		for i, key := range mixed(rand.New(rand.NewSource(8)), keys) {
			if i%2 == 0 {
				drop(t, x, p, key)
				same(t, "dropped from the table", c, q)
				put(t, x, p, key+"\x00x", i)
				same(t, "put to the table", c, q)
			} else {
				drop(t, c, q, key)
				same(t, "dropped from the copy", x, p)
				put(t, c, q, key+"\x00y", i)
				same(t, "put to the copy", x, p)
			}
		}
		same(t, "the table", x, p)
		same(t, "the copy", c, q)
	}
}

func TestACopyHasTheSameRoom(t *testing.T) {
	for _, room := range []int{1, 2, 5, most} {
		for n := range min(room, 6) + 1 {
			x, p := with(t, room, row(n)...)
			c, q := x.Copy(), p.copy()
			same(t, fmt.Sprint(n, " of ", room), c, q)
			for i := n; i < room; i++ {
				is(t, "put to the copy", c.Put(fmt.Sprint("z", i), i), api.OK)
			}
			is(t, "one more", c.Put("zz", 1), api.ErrFull)
			same(t, "the copy is full", x, p)
			if c.Len() != room || c.Room() != room {
				t.Fatal(c.Len(), c.Room())
			}
		}
	}
}

func TestCopiesOfCopies(t *testing.T) {
	x, p := with(t, len(keys), keys...)
	c, d := x.Copy(), x.Copy()
	e := c.Copy()
	for _, key := range keys {
		c.Drop(key)
	}
	same(t, "the table", x, p)
	same(t, "its other copy", d, p)
	same(t, "the emptied one's copy", e, p)
	for _, key := range keys {
		d.Put(key, -1)
		x.Drop(key)
	}
	same(t, "the copy's copy", e, p)
	for i, key := range others[:9] {
		c.Put(key, i) // grows where it was emptied
	}
	same(t, "the copy's copy", e, p)
	for _, key := range keys {
		if v, ok := d.Get(key); !ok || v != -1 {
			t.Fatal(short(key), v, ok)
		}
	}
}

// A copy that is made while its table is gone through, or changed, is as the table is then.
func TestACopyWhileTheTableIsGoneThrough(t *testing.T) {
	x, p := with(t, len(keys), keys...)
	for key := range x.All() {
		drop(t, x, p, key)
		c := x.Copy()
		same(t, "one less", c, p)
		c.Put(key, 3)
		same(t, "one less in the table", x, p)
	}
}

// P8.1, P8.2: tables of unlike values.

// sameOf goes by all calls with values of some type, of which the first one isn't the zero value.
func sameOf[V comparable](t *testing.T, what string, values ...V) {
	t.Helper()
	r := rand.New(rand.NewSource(9))
	x, p := fresh[V](t, len(keys))
	for range 4 {
		for _, key := range mixed(r, slices.Concat(keys, others)) {
			v := values[r.Intn(len(values))]
			if r.Intn(4) == 0 {
				if x.Drop(key) != p.drop(key) {
					t.Fatal(what, ": dropped")
				}
				gives(t, what, x, p, key)
				continue
			}
			is(t, what, x.Put(key, v), p.put(key, v))
			gives(t, what, x, p, key)
		}
		same(t, what, x, p)
	}
	c, q := x.Copy(), p.copy()
	for _, key := range keys {
		if x.Drop(key) != p.drop(key) {
			t.Fatal(what, ": dropped")
		}
	}
	for from := range c.All() {
		sameList(t, what, c.Scan(from, 3), q.scan(from, 3))
		sameList(t, what, x.Scan(from, 3), p.scan(from, 3))
	}
	same(t, what, x, p)
	same(t, what+": a copy", c, q)
	is(t, what, x.Put("zero", *new(V)), p.put("zero", *new(V)))
	same(t, what+": a zero value", x, p)
}

func TestUnlikeValues(t *testing.T) {
	one := 1
	sameOf(t, "numbers", 1, 2, -3, math.MaxInt, 0)
	sameOf[uint8](t, "bytes", 255, 1, 0)
	sameOf(t, "texts", "x", "", "\x00", "\xff\xfe", strings.Repeat("long", 1000))
	sameOf(t, "flags", true, false)
	sameOf(t, "floats", 0.5, -1, math.Inf(1), 0)
	sameOf(t, "arrays", [3]int{1, 2, 3}, [3]int{0, 0, 1}, [3]int{})
	sameOf(t, "nothing", struct{}{})
	sameOf(t, "structs", api.Mark{Key: "k"}, api.Mark{Act: api.Stamp{Counter: 3, Site: 1}})
	sameOf(t, "entries",
		api.Entry{Key: "k", Value: "v", Stamp: api.Stamp{Counter: 1}, Act: api.Stamp{Counter: 1}},
		api.Entry{Key: "d", Dead: true, Stamp: api.Stamp{Counter: 2}, Act: api.Stamp{Counter: 3}, Keepers: 5, Age: 9}, api.Entry{})
	sameOf(t, "pointers", &one, new(int), nil)
	sameOf[any](t, "anything", 1, "x", api.OK, nil)
	sameOf(t, "tables", must(t), must(t), nil)
}

// must gives a table, as another one's value.
func must(t *testing.T) *table.Table[string] {
	t.Helper()
	x, e := table.New[string](3)
	is(t, "a table for a value", e, api.OK)
	return x
}

// Values that can't be held against each other are put, told and dropped as they are.
func TestValuesThatAreNotCompared(t *testing.T) {
	x, e := table.New[func() int](3)
	is(t, "of functions", e, api.OK)
	for i, key := range []string{"b", "a", "c"} {
		is(t, "put", x.Put(key, func() int { return i }), api.OK)
	}
	is(t, "put anew", x.Put("a", func() int { return 7 }), api.OK)
	s := ""
	for key, f := range x.All() {
		s += fmt.Sprint(key, f(), " ")
	}
	if s != "a7 b0 c2 " || x.Drop("d") || !x.Drop("b") || len(x.Copy().Scan("", 9)) != 2 {
		t.Error(s)
	}
	if f, ok := x.Get("b"); ok || f != nil {
		t.Error("a function that isn't there")
	}
	l, e := table.New[[]string](2)
	is(t, "of lists", e, api.OK)
	is(t, "put", l.Put("", []string{"x", "y"}), api.OK)
	if v, ok := l.Get(""); !ok || !slices.Equal(v, []string{"x", "y"}) {
		t.Error(v, ok)
	}
	if v, ok := l.Get("x"); ok || v != nil {
		t.Error(v, ok)
	}
}

func TestPairs(t *testing.T) {
	p := table.Pair[int]{"k", 3} // just these fields, in this order
	if p.Key != "k" || p.Value != 3 || p != (table.Pair[int]{Key: "k", Value: 3}) {
		t.Error(p)
	}
}

// P1, P2.

func TestAnyCalls(t *testing.T) {
	r := rand.New(rand.NewSource(10))
	some := slices.Concat(keys, others)
	for range 150 {
		x, p := fresh[int](t, 1+r.Intn(1<<r.Intn(7)))
		for i := range 200 {
			key := some[r.Intn(len(some))]
			switch r.Intn(6) {
			case 0, 1, 2:
				put(t, x, p, key, i)
			case 3:
				drop(t, x, p, key)
			case 4:
				n := r.Intn(2*len(some)) - 3
				sameList(t, "Scan", x.Scan(key, n), p.scan(key, n))
			case 5:
				gives(t, "any calls", x, p, key)
				if x.Rank(key) != p.rank(key) {
					t.Fatalf("%s: %d, want %d", short(key), x.Rank(key), p.rank(key))
				}
			}
			if i%20 == 0 {
				same(t, "any calls", x, p)
			}
			if r.Intn(40) == 0 {
				x, p = x.Copy(), p.copy()
			}
		}
		same(t, "at the end", x, p)
	}
}

func TestVeryManyCallsOfTheGreatestTable(t *testing.T) {
	r := rand.New(rand.NewSource(11))
	l := row(most + 500)
	x, p := fresh[int](t, most)
	for i := range 60000 {
		key := l[r.Intn(len(l))]
		if r.Intn(20) == 0 {
			drop(t, x, p, key)
		} else {
			put(t, x, p, key, i)
		}
	}
	if x.Len() < most-500 {
		t.Fatal(x.Len(), " keys")
	}
	same(t, "at the end", x, p)
}

func TestVeryLongKeys(t *testing.T) {
	long := strings.Repeat("\xff", 1<<20)
	x, p := with(t, 4, long, long[1:], long+"\x00", "")
	same(t, "long keys", x, p)
	is(t, "one more", x.Put(long+"\x01", 1), api.ErrFull)
	drop(t, x, p, long)
	same(t, "one less", x, p)
	if x.Rank(long) != 2 || x.Rank(long+long) != 3 {
		t.Fatal(x.Rank(long), x.Rank(long+long))
	}
}

// K4: nothing is changed by what is refused, nor by what only asks.
func TestWhatChangesNothing(t *testing.T) {
	x, p := with(t, len(keys), keys...)
	for i, key := range others {
		is(t, "refused", x.Put(key, i), api.ErrFull)
		if x.Drop(key) {
			t.Fatal(short(key), " wasn't there")
		}
		x.Get(key)
		x.Rank(key)
		x.Scan(key, i)
		x.Copy().Drop(keys[i%len(keys)])
		x.All()
	}
	same(t, "asked and refused", x, p)
}

// K5: what is told may be written over, and so may what is behind its end.
func TestWhatScanTellsMayBeWrittenOver(t *testing.T) {
	for _, n := range []int{0, 1, 3, len(keys) - 1, len(keys), most} {
		for _, from := range keys {
			x, p := with(t, most, keys...)
			c := x.Copy()
			l, other := x.Scan(from, n), x.Scan(from, n)
			l = l[:cap(l)]
			for i := range l {
				l[i] = table.Pair[int]{Key: "written over", Value: -99}
			}
			_ = append(l, table.Pair[int]{Key: "behind", Value: -98})
			same(t, "written over", x, p)
			same(t, "written over: a copy", c, p)
			sameList(t, "written over: another answer", other, p.scan(from, n))
		}
	}
}

// K5: what was told doesn't follow the table.
func TestWhatScanToldStays(t *testing.T) {
	x, p := with(t, most, keys...)
	l, want := x.Scan("", most), p.all()
	some, few := x.Scan("a", 4), p.scan("a", 4)
	for i, key := range keys {
		put(t, x, p, key, -i)
		put(t, x, p, key+"\x00\x00", -i)
	}
	for _, key := range keys[:9] {
		drop(t, x, p, key)
	}
	sameList(t, "all", l, want)
	sameList(t, "some", some, few)
	same(t, "at the end", x, p)
}

// K5: structs are put, and told, as values.
func TestStructsAreNotShared(t *testing.T) {
	type thing struct {
		name string
		nums [2]int
	}
	x, e := table.New[thing](3)
	is(t, "of structs", e, api.OK)
	v := thing{"first", [2]int{1, 2}}
	is(t, "put", x.Put("k", v), api.OK)
	want := v
	v.name, v.nums[0] = "changed", 9
	got, _ := x.Get("k")
	if got != want {
		t.Fatal("what was handed in is kept: ", got)
	}
	got.nums[1] = 8
	l := x.Scan("", 1)
	l[0].Value.nums[0] = 7
	for _, one := range x.All() {
		one.nums[0] = 6
	}
	c := x.Copy()
	c.Put("k", thing{})
	if again, _ := x.Get("k"); again != want {
		t.Fatal("what was told is kept: ", again)
	}
}

// K5: keys and values that were cut from bytes that are written over later stay as they were.
func TestKeysOfBytesThatAreWrittenOver(t *testing.T) {
	b := []byte("keyvalue")
	x, e := table.New[string](3)
	is(t, "of texts", e, api.OK)
	is(t, "put", x.Put(string(b[:3]), string(b[3:])), api.OK)
	clear(b)
	sameList(t, "written over", x.Scan("", 3), []table.Pair[string]{{Key: "key", Value: "value"}})
}

// K6: tables have nothing in common, and the same calls have the same answers.

func TestTablesHaveNothingInCommon(t *testing.T) {
	x, p := with(t, len(keys), keys...)
	y, q := with(t, 3, "b", "y")
	put(t, y, q, "b", 50)
	same(t, "the one", x, p)
	drop(t, x, p, "b")
	same(t, "the other one", y, q)
	put(t, y, q, "z", 51)
	is(t, "full", y.Put("w", 52), api.ErrFull)
	put(t, x, p, "w", 53)
	same(t, "the one", x, p)
	same(t, "the other one", y, q)
}

func TestTheOrderOfPutsMakesNoDifference(t *testing.T) {
	r := rand.New(rand.NewSource(12))
	_, p := with(t, len(keys))
	for i, key := range keys {
		p.put(key, i*i)
	}
	for range 30 {
		x, _ := fresh[int](t, len(keys))
		for _, key := range mixed(r, keys) {
			is(t, "put", x.Put(key, slices.Index(keys, key)*slices.Index(keys, key)), api.OK)
		}
		same(t, "in any order", x, p)
	}
}

func TestTheSameAnswersToTheSame(t *testing.T) {
	story := func(seed int64) string {
		r := rand.New(rand.NewSource(seed))
		x, e := table.New[int](1 + r.Intn(20))
		answers := []any{e}
		for i := range 80 {
			key := keys[r.Intn(len(keys))]
			v, ok := x.Get(key)
			answers = append(answers, x.Put(key, i), v, ok, x.Rank(key), x.Drop(keys[r.Intn(len(keys))]), x.Len())
			answers = append(answers, told(x.Scan(key, r.Intn(9))), told(gathered(t, x.All())))
		}
		return fmt.Sprint(answers...)
	}
	var first []string
	for seed := range 30 {
		first = append(first, story(int64(seed)))
	}
	for seed := 29; seed >= 0; seed-- {
		if story(int64(seed)) != first[seed] {
			t.Fatal("seed ", seed)
		}
	}
}
