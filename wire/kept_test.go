package wire_test

import (
	"bytes"
	"fmt"
	"math/rand"
	"slices"
	"testing"

	"quidnunc/api"
	"quidnunc/wire"
)

// P16.3.

func TestMessagesAreDecodedAsTheyWere(t *testing.T) {
	r := rand.New(rand.NewSource(5))
	for i := range 20000 {
		is(t, fmt.Sprint("message ", i), drawMessage(r, 1+i%19), api.OK)
	}
}

// Unlike messages of one kind have unlike bodies, and what is decoded of unlike bodies is unlike.
func TestNoOtherBodyIsAMessages(t *testing.T) {
	r := rand.New(rand.NewSource(6))
	for kind := 1; kind <= 19; kind++ {
		met := map[string]wire.Message{}
		for range 300 {
			m := drawMessage(r, kind)
			body, _ := wire.Encode(m)
			if was, ok := met[string(body)]; ok && !plainSame(was, m) {
				t.Fatalf("%#v and %#v have one body: %v", was, m, body)
			}
			met[string(body)] = m
		}
	}
}

// Whatever bytes are decoded, what comes of it has just these.
func TestWhatIsDecodedHasThatBody(t *testing.T) {
	r := rand.New(rand.NewSource(7))
	good := 0
	for i := range 60000 {
		kind := 1 + i%19
		body := spoilBytes(r, plainBytes(drawMessage(r, kind)))
		if r.Intn(3) == 0 {
			body = []byte(drawText(r, r.Intn(30)))
			for i := range body {
				body[i] &= byte(r.Intn(16))
			}
		}
		m, code := wire.Decode(kind, body)
		if code != api.OK {
			continue
		}
		good++
		if again, code := wire.Encode(m); code != api.OK || !bytes.Equal(again, body) || wire.Good(m) != api.OK {
			t.Fatalf("kind %d: %v is %#v, and that is %v, %d", kind, body, m, again, code)
		}
	}
	if good < 10000 {
		t.Fatal("too few bodies could be decoded: ", good)
	}
}

// One message's body is often one of another kind, too: it is the kind that tells them apart.
func TestBodiesOfOtherKinds(t *testing.T) {
	r := rand.New(rand.NewSource(8))
	for kind := 1; kind <= 19; kind++ {
		for range 20 {
			body := plainBytes(drawMessage(r, kind))
			for other := 1; other <= 19; other++ {
				if m, code := isReadAsPlain(t, "of another kind", other, body); code == api.OK && m.Kind != other {
					t.Fatal(kind, other, m)
				}
			}
		}
	}
}

// K5.

// roomy gives a message whose lists have room behind them, with something there.
func roomy(m wire.Message) wire.Message {
	m.Peers = append(slices.Clone(m.Peers), times(8, 77)...)[:len(m.Peers)]
	m.Marks = append(slices.Clone(m.Marks), times(8, api.Mark{Key: "behind"})...)[:len(m.Marks)]
	m.Entries = append(slices.Clone(m.Entries), times(8, api.Entry{Key: "behind"})...)[:len(m.Entries)]
	return m
}

// whole gives all that a message's lists have, behind their ends, too.
func whole(m wire.Message) string {
	return fmt.Sprintf("%#v %#v %#v %#v", m, m.Peers[:cap(m.Peers)], m.Marks[:cap(m.Marks)], m.Entries[:cap(m.Entries)])
}

func TestMessagesAreNotChanged(t *testing.T) {
	r := rand.New(rand.NewSource(9))
	for i := range 3000 {
		m := drawMessage(r, 1+i%19)
		if r.Intn(2) == 0 {
			spoil(r, &m)
		}
		a, b := roomy(m), roomy(m)
		was := whole(a)
		wire.Good(a)
		wire.Encode(a)
		wire.Same(a, b)
		wire.Same(b, a)
		if whole(a) != was || whole(b) != was {
			t.Fatalf("%s is %s", was, whole(a))
		}
	}
}

func TestBodiesAreNotChangedAndNotKept(t *testing.T) {
	r := rand.New(rand.NewSource(10))
	for i := range 3000 {
		kind := 1 + i%19
		body := append(spoilBytes(r, plainBytes(drawMessage(r, kind))), 1, 2, 3)
		all := slices.Clone(body)
		n := len(body) - 3
		m, code := wire.Decode(kind, body[:n])
		if !bytes.Equal(body, all) {
			t.Fatalf("kind %d: the body %v is %v", kind, all, body)
		}
		seen := fmt.Sprintf("%#v", m)
		for i := range body {
			body[i] = 0xEE
		}
		if fmt.Sprintf("%#v", m) != seen {
			t.Fatalf("kind %d, %d: a body changed behind Decode changes what was told: %s, %#v", kind, code, seen, m)
		}
	}
}

// What is told is the one's who asked: who writes over it changes nothing else.
func TestWhatIsToldIsNewMemory(t *testing.T) {
	r := rand.New(rand.NewSource(11))
	for i := range 2000 {
		m := drawMessage(r, 1+i%19)
		was := fmt.Sprintf("%#v", m)
		one, _ := wire.Encode(m)
		other, _ := wire.Encode(m)
		for i := range one[:cap(one)] {
			one[:cap(one)][i] = 0xEE
		}
		if !bytes.Equal(other, plainBytes(m)) || fmt.Sprintf("%#v", m) != was {
			t.Fatalf("a body that is written over changes %v, or %#v", other, m)
		}
		first, _ := wire.Decode(m.Kind, other)
		second, _ := wire.Decode(m.Kind, other)
		overwrite(first)
		if !plainSame(second, m) || !bytes.Equal(other, plainBytes(m)) {
			t.Fatalf("a message that is written over changes %#v, or %v", second, other)
		}
	}
}

// overwrite writes over all that a message's lists have, behind their ends, too.
func overwrite(m wire.Message) {
	for i := range m.Peers[:cap(m.Peers)] {
		m.Peers[:cap(m.Peers)][i] = 99
	}
	for i := range m.Marks[:cap(m.Marks)] {
		m.Marks[:cap(m.Marks)][i] = api.Mark{Key: "over"}
	}
	for i := range m.Entries[:cap(m.Entries)] {
		m.Entries[:cap(m.Entries)][i] = api.Entry{Key: "over"}
	}
}

// A name, and a message without elements, have nothing that could be written over.
func TestNoListIsToldWhereThereIsNoElement(t *testing.T) {
	for kind := 1; kind <= 19; kind++ {
		body := plainBytes(wire.Message{Kind: kind})
		m, _ := wire.Decode(kind, body)
		if len(m.Peers)+len(m.Marks)+len(m.Entries) > 0 {
			t.Error(kind, m)
		}
		overwrite(m)
		if again, _ := wire.Decode(kind, body); len(again.Peers)+len(again.Marks)+len(again.Entries) > 0 {
			t.Error(kind, again)
		}
	}
}

// K6: the same answers to the same, whatever was asked in between.
func TestTheSameAnswersToTheSame(t *testing.T) {
	story := func(seed int64) string {
		r := rand.New(rand.NewSource(seed))
		var answers []string
		for range 40 {
			m := drawMessage(r, 1+r.Intn(19))
			if r.Intn(2) == 0 {
				spoil(r, &m)
			}
			body, code := wire.Encode(m)
			read, readCode := wire.Decode(m.Kind, spoilBytes(r, plainBytes(m)))
			answers = append(answers, fmt.Sprintf("%d %v %d %#v %d %s", wire.Good(m), body, code, read, readCode, wire.Name(m.Kind)))
		}
		return fmt.Sprint(answers)
	}
	var first []string
	for seed := range 30 {
		first = append(first, story(int64(seed)))
	}
	for seed := 29; seed >= 0; seed-- {
		if story(int64(seed)) != first[seed] {
			t.Fatal("seed ", seed)
		}
	}
}
