package total_test

import (
	"bytes"
	"testing"

	"folkmoot/api"
	"folkmoot/total"
)

// roomy: the bytes, with others in the room behind them.
func roomy(b []byte) []byte {
	return append(bytes.Clone(b), "rest"...)[:len(b)]
}

// used: were the bytes, and those behind them, left as they were made? They are written over then.
func used(t *testing.T, b, was []byte) {
	t.Helper()
	if !bytes.Equal(b, was) || string(b[len(b):len(b)+4]) != "rest" {
		t.Fatalf("what was handed in is % x, was % x", b, was)
	}
	scrub(b)
}

func scrub(b []byte) {
	b = b[:cap(b)]
	for i := range b {
		b[i] = '#'
	}
}

func scrubSummary(t *testing.T, s api.Summary) {
	t.Helper()
	was := make([][]byte, len(s.Con))
	for i, x := range s.Con {
		was[i] = bytes.Clone(x.M)
	}
	for i, x := range s.Con {
		scrub(x.M)
		for k := i + 1; k < len(s.Con); k++ {
			if !bytes.Equal(s.Con[k].M, was[k]) {
				t.Fatalf("the messages at %d and %d share memory", i, k)
			}
		}
	}
	clear(s.Con[:cap(s.Con)])
	clear(s.Ord[:cap(s.Ord)])
}

// hands: a call with bytes that are written over behind it.
func hands(t *testing.T, call func(b []byte) api.Errno, b []byte) {
	t.Helper()
	l := roomy(b)
	want(t, "a call", call(l), api.OK)
	used(t, l, b)
}

func from(i int, call func(int, []byte) api.Errno) func([]byte) api.Errno {
	return func(b []byte) api.Errno { return call(i, b) }
}

// look: all that may be asked is asked, and the answers are written over.
func look(t *testing.T, x *total.Total) {
	t.Helper()
	scrubSummary(t, x.Summary())
	m, _ := x.Next()
	scrub(m)
}

// The rule 'Memory': what is handed in isn't kept, and what is answered isn't shared.
func TestMemory(t *testing.T) {
	x := nodeOf(t, 2, 0, 4)
	hands(t, x.Bcast, []byte("abc"))
	hands(t, x.Bcast, []byte("de"))
	look(t, x)
	enters(t, x, view(1, 3))
	hands(t, x.Bcast, []byte("fgh"))
	look(t, x)
	m, _ := x.Next()
	want(t, "Sent", x.Sent(), api.OK)
	look(t, x)
	hands(t, from(0, x.Recv), m)
	hands(t, from(1, x.Recv), all(t, summary("axy bz", "ba", 2, id(0, 0))))
	look(t, x)
	hands(t, from(0, x.Safe), m)
	hands(t, from(1, x.Safe), all(t, empty()))
	look(t, x)
	hands(t, from(1, x.Recv), one(t, "cxyz"))
	hands(t, from(1, x.Safe), one(t, "cxyz"))
	look(t, x)
	v := id(1, 0)
	con := append([]api.Entry{{L: of(v, 1, 0), M: []byte("abc")}, {L: of(v, 2, 0), M: []byte("de")}, {L: of(v, 3, 0), M: []byte("fgh")}}, entries("axy bz cxyz")...)
	ord := append(labels("ba"), of(v, 1, 0), of(v, 2, 0), of(v, 3, 0), named('c'))
	s := api.Summary{Con: con, Ord: ord, Next: 7, High: v}
	knows(t, x, s)
	for _, want := range []string{"z", "xy", "abc", "de", "fgh", "xyz"} {
		i, e := x.Take()
		if e != api.OK || string(i.M) != want {
			t.Fatalf("Take = %v, %d, want %s", i, e, want)
		}
		scrub(i.M)
		look(t, x)
	}
	knows(t, x, s)
	scrub(sendsOne(t, x, of(v, 1, 0), "abc"))
	scrub(sendsOne(t, x, of(v, 2, 0), "de"))
	scrub(sendsOne(t, x, of(v, 3, 0), "fgh"))
	knows(t, x, s)
	enters(t, x, view(2, 3))
	knows(t, x, s)
}

// The rule 'Memory': what is refused is left alone, too.
func TestMemoryBesideErrors(t *testing.T) {
	x := nodeOf(t, 1, 0, 1)
	refused := func(call func([]byte) api.Errno, b []byte, e api.Errno) {
		t.Helper()
		l := roomy(b)
		want(t, "a call", call(l), e)
		used(t, l, b)
	}
	hands(t, x.Bcast, []byte("a"))
	refused(x.Bcast, []byte("b"), api.ErrBusy)
	refused(x.Bcast, make([]byte, api.MaxMsg+1), api.ErrLong)
	enters(t, x, view(1, 1))
	for _, call := range []func(int, []byte) api.Errno{x.Recv, x.Safe} {
		refused(from(0, call), []byte{1, 2, 3}, api.ErrForm)
		refused(from(1, call), one(t, "ax"), api.ErrArg)
	}
	hands(t, from(0, x.Recv), all(t, empty()))
	refused(from(0, x.Recv), all(t, summary("ax", "a", 1, id(0, 0))), api.ErrState)
	knows(t, x, api.Summary{Con: []api.Entry{{L: of(id(1, 0), 1, 0), M: []byte("a")}}, Next: 1})
}
