package wire

import (
	"quidnunc/api"
	"quidnunc/entry"
	"quidnunc/octets"
	"quidnunc/stamp"
)

const (
	mostHops   = 8
	mostNumber = 1<<32 - 1
)

// How many bytes numbers have.
const (
	nodeBytes    = 1
	hopsBytes    = 1
	manyBytes    = 1
	numberBytes  = 4
	sumBytes     = 8
	counterBytes = 4
	siteBytes    = 1
)

// rule says what a field may be.
type rule struct {
	isNone func(m *Message) bool          // whether it is what it has to be where a kind doesn't have it
	mayBe  func(m *Message, k shape) bool // whether it may be so where a kind has it
}

// rules gives the rules of all fields, by their numbers.
func rules() [howManyFields]rule {
	return [howManyFields]rule{
		peerField: {
			func(m *Message) bool { return m.Peer == 0 },
			func(m *Message, k shape) bool { return isNode(m.Peer) }},
		hopsField: {
			func(m *Message) bool { return m.Hops == 0 },
			func(m *Message, k shape) bool { return m.Hops >= 0 && m.Hops <= mostHops }},
		highField: {
			func(m *Message) bool { return !m.High },
			func(m *Message, k shape) bool { return true }},
		peersField: {
			func(m *Message) bool { return len(m.Peers) == 0 },
			func(m *Message, k shape) bool { return len(m.Peers) <= api.MaxList && each(m.Peers, isNode) }},
		numberField: {
			func(m *Message) bool { return m.Number == 0 },
			func(m *Message, k shape) bool { return m.Number >= 0 && m.Number <= mostNumber }},
		sumField: {
			func(m *Message) bool { return m.Sum == 0 },
			func(m *Message, k shape) bool { return true }},
		markField: {
			func(m *Message) bool { return isTop(m.Mark) },
			func(m *Message, k shape) bool { return isTop(m.Mark) || isMark(m.Mark) }},
		marksField: {
			func(m *Message) bool { return len(m.Marks) == 0 },
			func(m *Message, k shape) bool { return k.isMany(len(m.Marks)) && each(m.Marks, isMark) }},
		entriesField: {
			func(m *Message) bool { return len(m.Entries) == 0 },
			func(m *Message, k shape) bool { return k.isMany(len(m.Entries)) && each(m.Entries, isEntry) }},
	}
}

// form is how a field stands in a body.
type form struct {
	put  func(w *octets.Writer, m *Message)
	take func(r *octets.Reader, m *Message)
}

// forms gives the forms of all fields, by their numbers.
func forms() [howManyFields]form {
	return [howManyFields]form{
		peerField: {
			func(w *octets.Writer, m *Message) { putNode(w, m.Peer) },
			func(r *octets.Reader, m *Message) { m.Peer = takeNode(r) }},
		hopsField: {
			func(w *octets.Writer, m *Message) { w.Number(uint64(m.Hops), hopsBytes) },
			func(r *octets.Reader, m *Message) { m.Hops = int(r.Number(hopsBytes)) }},
		highField: {
			func(w *octets.Writer, m *Message) { w.Flag(m.High) },
			func(r *octets.Reader, m *Message) { m.High = r.Flag() }},
		peersField: {
			func(w *octets.Writer, m *Message) { putList(w, m.Peers, putNode) },
			func(r *octets.Reader, m *Message) { m.Peers = takeList(r, takeNode) }},
		numberField: {
			func(w *octets.Writer, m *Message) { w.Number(uint64(m.Number), numberBytes) },
			func(r *octets.Reader, m *Message) { m.Number = int(r.Number(numberBytes)) }},
		sumField: {
			func(w *octets.Writer, m *Message) { w.Number(m.Sum, sumBytes) },
			func(r *octets.Reader, m *Message) { m.Sum = r.Number(sumBytes) }},
		markField: {
			func(w *octets.Writer, m *Message) { putMark(w, m.Mark) },
			func(r *octets.Reader, m *Message) { m.Mark = takeMark(r) }},
		marksField: {
			func(w *octets.Writer, m *Message) { putList(w, m.Marks, putMark) },
			func(r *octets.Reader, m *Message) { m.Marks = takeList(r, takeMark) }},
		entriesField: {
			func(w *octets.Writer, m *Message) { putList(w, m.Entries, entry.Lay) },
			func(r *octets.Reader, m *Message) { m.Entries = takeList(r, entry.Take) }},
	}
}

// isNode tells whether there may be such a node.
func isNode(n int) bool { return n >= 0 && n < api.MaxSites }

// isTop tells whether a mark is the zero one.
func isTop(k api.Mark) bool { return k == api.Mark{} }

// isMark tells whether a mark may be that of an entry.
func isMark(k api.Mark) bool { return stamp.Good(k.Act) && k.Key != "" && len(k.Key) <= api.MaxKey }

// isEntry tells whether an entry may be.
func isEntry(e api.Entry) bool { return entry.Check(e) == api.OK }

// putNode puts a node's number.
func putNode(w *octets.Writer, n int) { w.Number(uint64(n), nodeBytes) }

// takeNode takes a node's number.
func takeNode(r *octets.Reader) int { return int(r.Number(nodeBytes)) }

// putMark puts a mark.
func putMark(w *octets.Writer, k api.Mark) {
	w.Number(uint64(k.Act.Counter), counterBytes).Number(uint64(k.Act.Site), siteBytes).Text(k.Key)
}

// takeMark takes a mark, whether it may be or not.
func takeMark(r *octets.Reader) api.Mark {
	// One by one, not in a literal: the order in which they are taken is that of the bytes.
	var k api.Mark
	k.Act.Counter = int(r.Number(counterBytes))
	k.Act.Site = int(r.Number(siteBytes))
	k.Key = r.Text(api.MaxKey)
	return k
}
