package overlay

import "quidnunc/wire"

// Change tells that a node became a neighbour, or isn't one any more.
type Change struct {
	Peer int
	Up   bool
}

// news is what comes about within a call.
type news struct {
	letters []wire.Letter
	changes []Change
}

// send says that a letter is to be sent.
func (n *news) send(to int, m wire.Message) {
	n.letters = append(n.letters, wire.Letter{To: to, Message: m})
}

// turn says that a node became a neighbour, or isn't one any more.
func (n *news) turn(p int, up bool) { n.changes = append(n.changes, Change{Peer: p, Up: up}) }

// told gives what came about; the next call begins with nothing.
func (n *news) told() ([]wire.Letter, []Change) {
	letters, changes := n.letters, n.changes
	*n = news{}
	return letters, changes
}
