package seen_test

import (
	"fmt"
	"math"
	"math/rand"
	"slices"
	"strings"
	"testing"

	"quidnunc/api"
	"quidnunc/seen"
)

// at gives a mark, that may be or not.
func at(key string, counter, site int) api.Mark {
	return api.Mark{Act: api.Stamp{Counter: counter, Site: site}, Key: key}
}

var (
	zero = api.Mark{}
	a    = at("a", 1, 0)
	b    = at("b", 1, 0)
	c    = at("c", 1, 0)
	d    = at("d", 1, 0)
	f    = at("f", 1, 0)
)

// wide is numbers of which some are alike in a byte, in 32 bits, or but for their sign.
var wide = []int{
	math.MinInt, math.MinInt + 1, -1 << 32, -1<<32 + 1, -1 << 31, -256, -12, -1, 0, 1, 2, 11, 12, 21, 111, 255, 256, 257,
	1<<31 - 1, 1 << 31, 1<<32 - 1, 1 << 32, 1<<32 + 1, 1 << 53, 1<<53 + 1, math.MaxInt - 1, math.MaxInt,
}

// texts are keys that begin or end alike, that letters' cases or a text's repair would make the same, and such as no entry has.
var texts = []string{
	"", " ", "\x00", "\x00\x00", "a", "A", "a\x00", "\x00a", " a", "a ", "aa", "ab", "ba", "1", "11", "é", "e\u0301",
	"\x7f", "\x80", "\x81", "\xff", "\xfe", "\xff\xff", "\uFFFD", "k123456789012345", "k123456789012346",
	"k1234567890123456", strings.Repeat("x", 4999), strings.Repeat("x", 5000), strings.Repeat("x", 4999) + "y",
}

// unlike gives marks that are all unlike, some in their counter, site, or key alone; the zero mark is among them.
func unlike() []api.Mark {
	var l []api.Mark
	for _, n := range wide {
		l = append(l, at("", n, 0), at("a", n, 0), at("a", n, 1))
		if n != 0 && n != 1 {
			l = append(l, at("", 0, n), at("a", 0, n), at("a", 1, n))
		}
	}
	for _, key := range texts {
		if key != "" && key != "a" {
			l = append(l, at(key, 0, 0), at(key, 1, 0), at(key, 1, 11))
		}
	}
	return append(l, at("", 1, 11), at("", 11, 1), at("", 11, 11), at("", 111, 11), at("1", 11, 1), at("11", 1, 1))
}

// row gives so many marks that are all unlike, such as entries have.
func row(from, n int) []api.Mark {
	l := make([]api.Mark, n)
	for i := range l {
		l[i] = at(fmt.Sprint("k", (from+i)%7), 1+(from+i)/5, (from+i)%5)
	}
	return l
}

// plain is a list as P18.2 has it: all that ever were added, of which the last ones are in it.
type plain struct {
	room  int
	added []api.Mark
}

func (p *plain) all() []api.Mark { return p.added[max(0, len(p.added)-p.room):] }

func (p *plain) has(m api.Mark) bool {
	for _, o := range p.all() {
		if o.Act.Counter == m.Act.Counter && o.Act.Site == m.Act.Site && o.Key == m.Key {
			return true
		}
	}
	return false
}

func (p *plain) add(m api.Mark) bool {
	if p.has(m) {
		return false
	}
	p.added = append(p.added, m)
	return true
}

// told gives marks for a message.
func told(l ...api.Mark) string {
	s := fmt.Sprint(len(l), " marks")
	for i, m := range l {
		if i == 20 {
			return s + " .."
		}
		s += fmt.Sprintf(" %.20q at %d, %d;", m.Key, m.Act.Counter, m.Act.Site)
	}
	return s
}

// both is a list, with the plain one beside it.
type both struct {
	s *seen.Seen
	p plain
}

// with gives a list with room for so many marks, to which these were added.
func with(t *testing.T, room int, l ...api.Mark) *both {
	t.Helper()
	s, e := seen.New(room)
	if e != api.OK || s == nil {
		t.Fatalf("New(%d): %v, %d", room, s, e)
	}
	k := &both{s, plain{room: room}}
	k.adds(t, "made so", l...)
	return k
}

// adds fails the test where Add of one of some answers otherwise than the plain one.
func (k *both) adds(t *testing.T, what string, l ...api.Mark) {
	t.Helper()
	for i, m := range l {
		if got, want := k.s.Add(m), k.p.add(m); got != want {
			t.Fatalf("%s, room %d, at %d: Add of %s: %v, want %v", what, k.p.room, i, told(m), got, want)
		}
	}
}

// holds fails the test where a list tells otherwise than the plain one; these marks, too, it is asked for.
func (k *both) holds(t *testing.T, what string, others ...api.Mark) {
	t.Helper()
	tells(t, what, k.s, k.p.all()...)
	for _, m := range others {
		k.has(t, what, m)
	}
}

// has fails the test where a list tells otherwise of a mark than the plain one.
func (k *both) has(t *testing.T, what string, m api.Mark) {
	t.Helper()
	if got, want := k.s.Has(m), k.p.has(m); got != want {
		t.Fatalf("%s, room %d: Has of %s: %v, want %v", what, k.p.room, told(m), got, want)
	}
}

// tells fails the test where a list hasn't just these marks, the eldest first.
func tells(t *testing.T, what string, s *seen.Seen, want ...api.Mark) {
	t.Helper()
	if got := s.All(); !slices.Equal(got, want) {
		t.Fatalf("%s: All: %s, want %s", what, told(got...), told(want...))
	}
	if s.Len() != len(want) {
		t.Fatalf("%s: Len: %d, want %d", what, s.Len(), len(want))
	}
	for _, m := range want {
		if !s.Has(m) {
			t.Fatalf("%s: Has of %s: false", what, told(m))
		}
	}
}

// Any marks in any order, with the plain list beside it.
func TestAnyMarks(t *testing.T) {
	l := unlike()
	for seed := range 400 {
		r := rand.New(rand.NewSource(int64(seed)))
		room := 1 + r.Intn(12)
		if r.Intn(4) == 0 {
			room = 1 + r.Intn(80)
		}
		from := r.Intn(len(l))
		some := l[from:min(len(l), from+1+r.Intn(3*room))]
		k := with(t, room)
		for i := range 6*room + 20 {
			what := fmt.Sprint("seed ", seed, ", mark ", i)
			k.has(t, what, some[r.Intn(len(some))])
			k.adds(t, what, some[r.Intn(len(some))])
			k.holds(t, what, l[r.Intn(len(l))])
		}
		k.holds(t, fmt.Sprint("seed ", seed), l...)
	}
}

// All stories there are of a few marks, that are unlike in one thing alone, at all small rooms.
func TestAllShortStories(t *testing.T) {
	marks := []api.Mark{zero, at("", 1, 0), at("", 0, 1), at("a", 0, 0)}
	for room := 1; room < 6; room++ {
		for story := range 1 << 14 {
			k := with(t, room)
			for rest, left := story, 7; left > 0; rest, left = rest>>2, left-1 {
				k.adds(t, fmt.Sprint("story ", story), marks[rest&3])
			}
			k.holds(t, fmt.Sprint("story ", story), marks...)
		}
	}
}
