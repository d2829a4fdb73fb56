package seen_test

import (
	"fmt"
	"math/rand"
	"slices"
	"testing"

	"quidnunc/api"
	"quidnunc/seen"
)

// P18.2.

// The last ones of which Add told true, as many as there is room for, are in the list, and never more.
func TestTheLastOnesAreThere(t *testing.T) {
	for seed := range 300 {
		r := rand.New(rand.NewSource(int64(seed)))
		room := 1 + r.Intn(20)
		k := with(t, room)
		var added []api.Mark
		for i := range 200 {
			m := row(r.Intn(1+3*room), 1)[0]
			if k.s.Add(m) {
				added = append(added, m)
			}
			what := fmt.Sprint("seed ", seed, ", mark ", i)
			if n := k.s.Len(); n > room || n != min(room, len(added)) {
				t.Fatal(what, n, room, len(added))
			}
			for back := range added {
				if is := k.s.Has(added[len(added)-1-back]); back < room && !is {
					t.Fatalf("%s: the last but %d of room %d isn't there", what, back, room)
				}
			}
			if !k.s.Has(m) {
				t.Fatal(what, ": what came isn't there")
			}
		}
	}
}

// A mark stays until as many others have come as there is room for, however often those that are there come again.
func TestAMarkStaysThatLong(t *testing.T) {
	for _, room := range []int{1, 2, 3, 4, 7, 8, 9, 100, seen.MaxRoom} {
		for ahead := range min(room+2, 12) {
			k := with(t, room, row(0, ahead)...)
			one := at("one", 1, 1)
			if !k.s.Add(one) {
				t.Fatal(room, ahead)
			}
			for i, m := range row(5000, room) {
				if !k.s.Has(one) || k.s.Add(one) {
					t.Fatalf("room %d, %d ahead: it has left behind %d", room, ahead, i)
				}
				if !k.s.Add(m) || k.s.Add(m) {
					t.Fatal(room, ahead, i)
				}
			}
			if k.s.Has(one) || !k.s.Add(one) {
				t.Fatalf("room %d, %d ahead: it is there still", room, ahead)
			}
		}
	}
}

// What is met again, while it is there, changes nothing, the order of leaving among it.
func TestWhatIsMetAgainChangesNothing(t *testing.T) {
	for seed := range 200 {
		r := rand.New(rand.NewSource(int64(seed)))
		room := 1 + r.Intn(15)
		k, other := with(t, room), with(t, room)
		for i := range 100 {
			m := row(r.Intn(3*room), 1)[0]
			k.adds(t, "the one", m)
			other.adds(t, "the other one", m)
			for range r.Intn(4) {
				l := k.s.All()
				if k.s.Add(l[r.Intn(len(l))]) {
					t.Fatal(seed, i, told(l...))
				}
			}
			tells(t, fmt.Sprint("seed ", seed, ", mark ", i), k.s, other.s.All()...)
		}
	}
}

// All tells the eldest first: as many others come, that one leaves first, then the next one.
func TestTheyLeaveAsTheyAreTold(t *testing.T) {
	for _, room := range []int{1, 2, 3, 8, 50, seen.MaxRoom} {
		for _, ahead := range []int{0, 1, room - 1, room, room + 1, 2*room + 1} {
			k := with(t, room, row(0, ahead)...)
			l := k.s.All()
			for i, m := range row(5000, room) {
				k.s.Add(m)
				left := max(0, len(l)+i+1-room)
				for place, was := range l {
					if k.s.Has(was) != (place >= left) {
						t.Fatalf("room %d, %d ahead, %d came: the one told at %d", room, ahead, i+1, place)
					}
				}
			}
		}
	}
}

// K5: what is told is new memory.

func TestWhatIsToldIsNotKept(t *testing.T) {
	for _, room := range []int{1, 2, 3, 5} {
		for n := range 12 {
			k := with(t, room, row(0, n)...)
			first, second := k.s.All(), k.s.All()
			for i := range first {
				first[i] = at("written over", 99, i)
			}
			_ = append(first[:0], row(900, 7)...)
			_ = append(first, row(900, 7)...)
			clear(first[:cap(first)])
			k.holds(t, fmt.Sprint("written over, of ", n), at("written over", 99, 0), zero)
			if !slices.Equal(second, k.p.all()) {
				t.Fatal("the other answer: ", room, n, told(second...))
			}
			k.adds(t, "and then", row(3, 9)...)
			k.holds(t, "and then", row(0, 12)...)
		}
	}
}

// What is told stays, whatever comes then.
func TestWhatIsToldStays(t *testing.T) {
	for _, room := range []int{1, 2, 3, 5} {
		k := with(t, room)
		var answers, were [][]api.Mark
		for _, m := range row(0, 30) {
			k.s.Add(m)
			l := k.s.All()
			answers, were = append(answers, l), append(were, slices.Clone(l))
		}
		for i, l := range answers {
			if !slices.Equal(l, were[i]) {
				t.Fatal(room, i, told(l...), told(were[i]...))
			}
		}
	}
}

// K6: lists have nothing in common, asking changes nothing, and the same calls have the same answers.

func TestListsHaveNothingInCommon(t *testing.T) {
	k, o := with(t, 3), with(t, 2)
	l := row(0, 9)
	for i, m := range l {
		k.adds(t, "the one", m)
		k.holds(t, "the one", l...)
		o.holds(t, "the other one", l...)
		o.adds(t, "the other one", l[8-i])
		o.holds(t, "the other one", l...)
		k.holds(t, "the one", l...)
	}
	with(t, 3).holds(t, "a third one", l...)
	with(t, 2, l[4]).holds(t, "a fourth one", l...)
	k.holds(t, "the one", l...)
	o.holds(t, "the other one", l...)
}

func TestAskingChangesNothing(t *testing.T) {
	for n := range 9 {
		k := with(t, 4, row(0, n)...)
		for range 3 {
			for _, m := range slices.Concat(row(0, 12), unlike()) {
				k.s.Has(m)
			}
			k.s.Len()
			k.s.All()
			k.holds(t, "asked", row(0, 12)...)
		}
		k.adds(t, "and then", row(n, 3)...)
		k.holds(t, "and then", row(0, 12)...)
	}
}

func TestTheSameAnswersToTheSame(t *testing.T) {
	life := func(seed int64) string {
		r := rand.New(rand.NewSource(seed))
		s, e := seen.New(1 + r.Intn(9))
		answers := fmt.Sprint(e)
		for range 60 {
			answers += fmt.Sprint(s.Add(row(r.Intn(20), 1)[0]), s.Has(row(r.Intn(20), 1)[0]), s.Len(), s.All())
		}
		return answers
	}
	var first []string
	for seed := range 30 {
		first = append(first, life(int64(seed)))
	}
	for seed := 29; seed >= 0; seed-- {
		if life(int64(seed)) != first[seed] {
			t.Fatal("seed ", seed)
		}
	}
}
