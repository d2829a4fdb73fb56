package wire

import "quidnunc/api"

// The fields of messages, in the order in which their bytes stand.
const (
	peerField = iota
	hopsField
	highField
	peersField
	numberField
	sumField
	markField
	marksField
	entriesField
	howManyFields
)

// shape is what a kind has.
type shape struct {
	name        string
	fields      int // a bit each
	least, most int // how many Marks there are, and how many Entries, if it has these
}

// kinds has the shapes of all kinds, at their numbers.
var kinds = [Pile + 1]shape{
	Join:     {name: "join"},
	Forward:  {name: "forward", fields: 1<<peerField | 1<<hopsField},
	Neighbor: {name: "neighbor", fields: 1 << highField},
	Accept:   {name: "accept"},
	Refuse:   {name: "refuse"},
	Part:     {name: "part"},
	Shuffle:  {name: "shuffle", fields: 1<<peerField | 1<<hopsField | 1<<peersField},
	Swap:     {name: "swap", fields: 1 << peersField},
	Beat:     {name: "beat"},
	Gossip:   {name: "gossip", fields: 1 << entriesField, least: 1, most: 1},
	Have:     {name: "have", fields: 1 << marksField, least: 1, most: api.MaxList},
	Graft:    {name: "graft", fields: 1 << marksField, least: 1, most: 1},
	Prune:    {name: "prune"},
	Rumors:   {name: "rumors", fields: 1 << entriesField, least: 1, most: api.MaxList},
	Echo:     {name: "echo", fields: 1<<marksField | 1<<entriesField, most: api.MaxList},
	Check:    {name: "check", fields: 1<<numberField | 1<<sumField | 1<<entriesField, most: api.MaxList},
	Match:    {name: "match", fields: 1<<numberField | 1<<sumField | 1<<entriesField, most: api.MaxList},
	Peel:     {name: "peel", fields: 1<<numberField | 1<<markField | 1<<entriesField, most: api.MaxList},
	Pile:     {name: "pile", fields: 1<<numberField | 1<<sumField | 1<<markField | 1<<entriesField, most: api.MaxList},
}

// isKind tells whether there is such a kind.
func isKind(kind int) bool { return kind >= Join && kind <= Pile }

// has tells whether messages of this shape have a field.
func (k shape) has(field int) bool { return k.fields&(1<<field) != 0 }

// isMany tells whether a list of Marks, or of Entries, may have so many.
func (k shape) isMany(n int) bool { return n >= k.least && n <= k.most }
