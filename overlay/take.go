package overlay

import (
	"slices"

	"quidnunc/api"
	"quidnunc/wire"
)

// mayTake tells whether a message is one for an overlay, of nodes that there are.
func (o *Overlay) mayTake(m wire.Message) bool {
	return wire.Good(m) == api.OK && m.Kind <= wire.Beat &&
		o.isNumber(m.Peer) && !slices.ContainsFunc(m.Peers, func(p int) bool { return !o.isNumber(p) })
}

// take takes a message that may be; of Beat nothing comes but that its sender was heard.
func (o *Overlay) take(from int, m wire.Message) {
	switch m.Kind {
	case wire.Join:
		o.takeJoin(from)
	case wire.Forward:
		o.takeForward(from, m)
	case wire.Neighbor:
		o.takeNeighbor(from, m.High)
	case wire.Accept:
		if o.isAnswered(from) {
			o.raise(from)
		}
	case wire.Refuse:
		o.isAnswered(from)
	case wire.Part:
		o.lower(from)
	case wire.Shuffle:
		o.takeShuffle(from, m)
	case wire.Swap:
		o.learn(m.Peers...)
	}
}

// takeJoin takes in who joins, and tells the other neighbours.
func (o *Overlay) takeJoin(from int) {
	o.raise(from)
	for _, p := range o.but(from) {
		o.send(p, wire.Message{Kind: wire.Forward, Peer: from, Hops: o.config.Walk})
	}
}

// takeForward passes on the news of a joiner; where its way ends the joiner becomes a neighbour.
func (o *Overlay) takeForward(from int, m wire.Message) {
	if m.Peer == o.Self() {
		return
	}
	next := o.but(from, m.Peer)
	if m.Hops == 0 || len(next) == 0 {
		o.takeIn(m.Peer)
		return
	}
	if m.Hops == o.config.Drop {
		o.learn(m.Peer)
	}
	o.passOn(next, m)
}

// takeIn makes a neighbour of a node that is none yet, and tells it so.
func (o *Overlay) takeIn(p int) {
	if !o.IsActive(p) {
		o.raise(p)
		o.send(p, wire.Message{Kind: wire.Neighbor, High: true})
	}
}

// passOn sends a message one hop farther, to one of some.
func (o *Overlay) passOn(some []int, m wire.Message) {
	to, _ := o.dice.Pick(some)
	m.Hops--
	m.Peers = slices.Clone(m.Peers) // those that were handed in are somebody else's
	o.send(to, m)
}

// takeNeighbor answers who asks to be a neighbour.
func (o *Overlay) takeNeighbor(from int, high bool) {
	if !high && !o.IsActive(from) && o.Full() {
		o.send(from, wire.Message{Kind: wire.Refuse})
		return
	}
	o.raise(from)
	o.send(from, wire.Message{Kind: wire.Accept})
}

// takeShuffle passes on whom a node knows; where its way ends that node is told as many.
func (o *Overlay) takeShuffle(from int, m wire.Message) {
	if m.Peer == o.Self() {
		return
	}
	if next := o.but(from, m.Peer); m.Hops != 0 && len(next) > 0 {
		o.passOn(next, m)
		return
	}
	others := slices.DeleteFunc(o.Passive(), func(p int) bool { return p == m.Peer })
	o.send(m.Peer, wire.Message{Kind: wire.Swap, Peers: o.dice.Some(others, len(m.Peers))})
	o.learn(m.Peer)
	o.learn(m.Peers...)
}
