package views

import (
	"slices"

	"quidnunc/dice"
)

// view is one set of nodes.
type view struct {
	nodes  []int // rising, since dice pick of them by their places
	places int   // how many there may be
}

// has tells whether a node is in it.
func (v *view) has(p int) bool {
	_, there := slices.BinarySearch(v.nodes, p)
	return there
}

// full tells whether there are as many as there may be.
func (v *view) full() bool { return len(v.nodes) == v.places }

// drop takes a node out, if it is there.
func (v *view) drop(p int) bool {
	at, there := slices.BinarySearch(v.nodes, p)
	if there {
		v.nodes = slices.Delete(v.nodes, at, at+1)
	}
	return there
}

// put takes in a node that isn't there; of a full view the one that dice pick leaves first, and is told.
func (v *view) put(p int, d *dice.Dice) int {
	gone := nobody
	if v.full() {
		gone, _ = d.Pick(v.nodes)
		v.drop(gone)
	}
	at, _ := slices.BinarySearch(v.nodes, p)
	v.nodes = slices.Insert(v.nodes, at, p)
	return gone
}
