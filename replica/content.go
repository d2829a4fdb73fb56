package replica

import (
	"quidnunc/api"
	"quidnunc/entry"
	"quidnunc/recent"
	"quidnunc/sums"
	"quidnunc/table"
)

// content is entries by keys, and what is reckoned of them. An entry comes and goes by its calls alone, so
// that the sum and the marks are always those of the entries.
type content struct {
	entries *table.Table[api.Entry]
	sum     sums.Sum
	marks   *recent.Index
}

// hasRoom tells whether a key may come, or is there already.
func (c *content) hasRoom(key string) bool {
	_, there := c.Entry(key)
	return there || c.entries.Len() < c.entries.Room()
}

// isNews tells whether an entry is newer than its key's, or the first one of it.
func (c *content) isNews(e api.Entry) bool {
	was, there := c.Entry(e.Key)
	return !there || entry.Newer(e, was)
}

// place gives an entry its key's place, for which there is room.
func (c *content) place(e api.Entry) {
	// Of a new key this is the zero entry, whose number in the sum is 0.
	was, _ := c.Entry(e.Key)
	c.entries.Put(e.Key, e)
	c.sum.Turn(was, e)
	c.marks.Put(entry.Mark(e))
}

// setAge says how old an entry that is there is. Neither the sum nor the marks hang on that.
func (c *content) setAge(e api.Entry, age int) {
	e.Age = age
	c.entries.Put(e.Key, e)
}

// drop takes an entry that is there away.
func (c *content) drop(e api.Entry) {
	c.entries.Drop(e.Key)
	c.sum.Drop(e)
	c.marks.Drop(e.Key)
}

// Get gives a key's value.
func (c *content) Get(key string) (string, bool) {
	// Without an entry this is the zero one, which isn't dead either.
	e, there := c.Entry(key)
	return e.Value, there && !e.Dead
}

// Scan gives so many keys, and their values, from one on.
func (c *content) Scan(from string, n int) []table.Pair[string] {
	var live []table.Pair[string]
	for key, e := range c.entries.All() {
		if len(live) >= n {
			break
		}
		if key >= from && !e.Dead {
			live = append(live, table.Pair[string]{Key: key, Value: e.Value})
		}
	}
	return live
}

// Entry gives a key's entry.
func (c *content) Entry(key string) (api.Entry, bool) { return c.entries.Get(key) }

// Entries gives all entries.
func (c *content) Entries() []api.Entry {
	var all []api.Entry
	for _, e := range c.entries.All() {
		all = append(all, e)
	}
	return all
}

// Below gives the latest entries that are earlier than a mark.
func (c *content) Below(m api.Mark, n int) []api.Entry {
	var some []api.Entry
	for _, at := range c.marks.Below(m, n) {
		e, _ := c.Entry(at.Key)
		some = append(some, e)
	}
	return some
}

// Sum gives the sum of all entries.
func (c *content) Sum() uint64 { return c.sum.Value() }
