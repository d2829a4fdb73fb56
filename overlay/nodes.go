package overlay

import (
	"slices"

	"quidnunc/setup"
	"quidnunc/wire"
)

// raise makes a node a neighbour; nothing comes of it, if it is one already.
func (o *Overlay) raise(p int) {
	gone, raised := o.Raise(p, o.dice)
	if !raised {
		return
	}
	if gone >= 0 { // somebody had to give way
		o.send(gone, wire.Message{Kind: wire.Part})
		o.turn(gone, false)
	}
	o.turn(p, true)
	o.silent[p] = 0
}

// lower makes a neighbour one of the others that are known.
func (o *Overlay) lower(p int) {
	if o.Lower(p, o.dice) {
		o.turn(p, false)
	}
}

// learn makes those known that aren't, in order.
func (o *Overlay) learn(some ...int) {
	for _, p := range some {
		o.Learn(p, o.dice)
	}
}

// hear keeps in mind that a node was heard.
func (o *Overlay) hear(p int) {
	o.silent[p] = 0
	o.learn(p)
}

// but gives all neighbours but some, rising.
func (o *Overlay) but(some ...int) []int {
	return slices.DeleteFunc(o.Active(), func(p int) bool { return slices.Contains(some, p) })
}

// lowerSilent lowers the neighbours that weren't heard for too long.
func (o *Overlay) lowerSilent() {
	for _, p := range o.Active() {
		o.silent[p]++
		if o.silent[p] > o.config.Silence {
			o.lower(p)
		}
	}
}

// waitOn waits one tick more for the answer of who is asked, but not for ever.
func (o *Overlay) waitOn() {
	if o.asked == nobody {
		return
	}
	o.waited++
	if o.waited == setup.Patience {
		o.asked = nobody
	}
}

// ask asks one of the others to be a neighbour, if there is room for one.
func (o *Overlay) ask() {
	if o.Full() || o.asked != nobody {
		return
	}
	p, there := o.dice.Pick(o.Passive())
	if !there {
		return
	}
	o.asked, o.waited = p, 0
	o.send(p, wire.Message{Kind: wire.Neighbor, High: len(o.Active()) == 0})
}

// isAnswered tells whether it was a node that was asked; if so nobody is any more.
func (o *Overlay) isAnswered(by int) bool {
	if o.asked != by {
		return false
	}
	o.asked = nobody
	return true
}

// beat shows all neighbours that the node is there, and tells one of them some of the others.
func (o *Overlay) beat() {
	neighbours := o.Active()
	for _, p := range neighbours {
		o.send(p, wire.Message{Kind: wire.Beat})
	}
	to, there := o.dice.Pick(neighbours)
	if !there {
		return
	}
	some := o.dice.Some(o.Passive(), o.config.Swap)
	o.send(to, wire.Message{Kind: wire.Shuffle, Peer: o.Self(), Hops: o.config.Walk, Peers: some})
}
