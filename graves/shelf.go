package graves

import (
	"iter"

	"quidnunc/api"
	"quidnunc/table"
)

// shelf is graves by keys: those of a table, and, as there is no bound for how many graves there are, but one
// for a table's keys, those of as many more shelves behind it as it takes. Each key is below all that are
// on shelves behind its own.
type shelf struct {
	*table.Table[api.Entry]
	from string // no key on it is below
	next *shelf // nil behind the last one
}

// newShelf gives a shelf without graves.
func newShelf() shelf { return shelf{Table: filled()} }

// filled gives a table with some graves, no more than there is room for.
func filled(pairs ...table.Pair[api.Entry]) *table.Table[api.Entry] {
	t, _ := table.New[api.Entry](table.MaxRoom)
	for _, p := range pairs {
		t.Put(p.Key, p.Value)
	}
	return t
}

// of gives the shelf on which a key is, or would be.
func (s *shelf) of(key string) *shelf {
	for s.next != nil && s.next.from <= key {
		s = s.next
	}
	return s
}

// Get gives a key's grave.
func (s *shelf) Get(key string) (api.Entry, bool) { return s.of(key).Table.Get(key) }

// Len gives how many graves there are.
func (s *shelf) Len() int {
	n := 0
	for ; s != nil; s = s.next {
		n += s.Table.Len()
	}
	return n
}

// each goes through all graves, rising.
func (s *shelf) each() iter.Seq2[string, api.Entry] {
	return func(yield func(string, api.Entry) bool) {
		for at := s; at != nil; at = at.next {
			for key, e := range at.All() {
				if !yield(key, e) {
					return
				}
			}
		}
	}
}

// put says which grave a key has.
func (s *shelf) put(e api.Entry) {
	at := s.of(e.Key)
	if at.Put(e.Key, e) == api.ErrFull {
		at.halve()
		at.put(e)
	}
}

// halve puts the greater half of a full shelf on a new one behind it, so that there is room on both,
// wherever the next keys come.
func (s *shelf) halve() {
	pairs := s.Scan("", s.Room())
	half := len(pairs) / 2
	s.next = &shelf{filled(pairs[half:]...), pairs[half].Key, s.next}
	s.Table = filled(pairs[:half]...)
}
