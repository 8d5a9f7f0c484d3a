package node_test

import (
	"bytes"
	"fmt"
	"testing"

	"folkmoot/api"
	"folkmoot/node"
)

// hands: a call with bytes that have others in the room behind them. They must be left as they are, and are written over behind the call.
func hands(t *testing.T, call func([]byte) api.Errno, b []byte, e api.Errno) {
	t.Helper()
	room := append(bytes.Clone(b), "rest"...)
	want(t, "a call", call(room[:len(b)]), e)
	if !bytes.Equal(room[:len(b)], b) || string(room[len(b):]) != "rest" {
		t.Fatalf("what was handed in is %q, was %q", room, b)
	}
	scrub(room)
}

// scrub writes over bytes and the room behind them.
func scrub(b []byte) {
	b = b[:cap(b)]
	for i := range b {
		b[i] = '#'
	}
}

// scrubs writes over all parts of a list, one by one; none of them may be seen in those behind it.
func scrubs[T any](t *testing.T, what string, l []T, bytesOf func(*T) []byte) {
	t.Helper()
	for i := range l {
		rest := fmt.Sprint(l[i+1:])
		scrub(bytesOf(&l[i]))
		same(t, what+" behind one that was written over", fmt.Sprint(l[i+1:]), rest)
	}
	clear(l[:cap(l)])
}

// look: all that may be asked is asked, and the answers are written over; what is asked then is as it was.
func look(t *testing.T, n *node.Node) {
	t.Helper()
	tell := func() string { return fmt.Sprint(n.Sent(), n.Got(), n.Trace(), n.Summary()) }
	was := tell()
	scrubs(t, "Sent", n.Sent(), func(m *[]byte) []byte { return *m })
	scrubs(t, "Got", n.Got(), func(x *api.Item) []byte { return x.M })
	scrubs(t, "Trace", n.Trace(), func(x *api.Event) []byte { return x.M })
	s := n.Summary()
	scrubs(t, "Con", s.Con, func(x *api.Entry) []byte { return x.M })
	clear(s.Ord[:cap(s.Ord)])
	scrubs(t, "Out", n.Out(), func(p *api.Packet) []byte { return p.Bytes })
	same(t, "what is told behind that", tell(), was)
}

// The rule 'Memory': what is handed in isn't kept, and what is answered isn't shared.
func TestMemory(t *testing.T) {
	n := nodeOf(t, config(2), 1)
	hands(t, n.Bcast, []byte("abc"), api.OK)
	hands(t, n.Bcast, make([]byte, api.MaxMsg+1), api.ErrLong)
	look(t, n)
	v := view(1, 3)
	joins(t, n, v)
	look(t, n)
	hands(t, n.Bcast, []byte("de"), api.OK)
	look(t, n)
	want(t, "Tick", n.Tick(), api.OK)
	look(t, n)
	a, b, x := entry(label(v, 1, 1), "abc"), entry(label(v, 2, 1), "de"), entry(label(v, 1, 0), "xyz")
	none, own := all(t, api.Summary{Next: 1}), all(t, api.Summary{Con: []api.Entry{a}, Next: 1})
	come := func(e api.Errno, base, ack, safe uint64, l ...api.Item) {
		t.Helper()
		hands(t, n.In, bytesOf(t, down(v, base, ack, safe, l...)), e)
		look(t, n)
	}
	come(api.OK, 0, 1, 2, item(0, none), item(1, own))
	come(api.ErrArg, 3, 0, 0, item(0, none))
	come(api.OK, 2, 3, 3, item(0, one(t, x)), item(1, one(t, a)))
	come(api.OK, 4, 3, 5, item(1, one(t, b)))
	s := ordered(4, v.ID, x, a, b)
	s.Ord = []api.Label{a.L, x.L, b.L}
	knows(t, n, s)
	got(t, n, "1abc 0xyz 1de")
	sent(t, n, "abc de")
	behind(t, n, 12, event(api.ERecv, v, 1, one(t, b)), event(api.ESafe, v, 1, one(t, b)))
}

// The same of one who is alone, with whom all comes of one call.
func TestMemoryAlone(t *testing.T) {
	n := nodeOf(t, config(1), 0)
	hands(t, n.Bcast, []byte("abc"), api.OK)
	want(t, "Tick", n.Tick(), api.OK)
	look(t, n)
	for _, m := range []string{"de", "", "fgh"} {
		hands(t, n.Bcast, []byte(m), api.OK)
		look(t, n)
	}
	got(t, n, "0abc 0de 0 0fgh")
	sent(t, n, "abc de  fgh")
}
