package total_test

import (
	"fmt"
	"math"
	"strings"
	"testing"

	"folkmoot/api"
	"folkmoot/total"
)

// The states' numbers.
func TestStates(t *testing.T) {
	if total.Send != 0 || total.Collect != 1 || total.Normal != 2 {
		t.Errorf("%d, %d, %d", total.Send, total.Collect, total.Normal)
	}
}

// The document's example.
func TestExample(t *testing.T) {
	x := nodeOf(t, 1, 0, 1)
	bcasts(t, x, "a")
	enters(t, x, view(1, 1))
	m := sendsAll(t, x)
	recvs(t, x, 0, m)
	safes(t, x, 0, m)
	m = sendsOne(t, x, of(id(1, 0), 1, 0), "a")
	recvs(t, x, 0, m)
	safes(t, x, 0, m)
	takes(t, x, "0a")
	quiet(t, x)
}

// P17.1
func TestNew(t *testing.T) {
	for _, c := range []struct {
		n, self, queue int
		right          bool
	}{
		{1, 0, 1, true},
		{3, 2, 7, true},
		{api.MaxNodes, api.MaxNodes - 1, api.MaxRing, true},
		{api.MaxNodes, 0, 1, true},
		{0, 0, 1, false},
		{-1, 0, 1, false},
		{-1, -2, 1, false},
		{api.MaxNodes + 1, 0, 1, false},
		{api.MaxNodes + 1, api.MaxNodes, 1, false},
		{math.MaxInt, 0, 1, false},
		{math.MinInt, 0, 1, false},
		{3, -1, 1, false},
		{3, 3, 1, false},
		{1, 1, 1, false},
		{3, math.MinInt, 1, false},
		{3, math.MaxInt, 1, false},
		{3, 0, 0, false},
		{3, 0, -1, false},
		{3, 0, api.MaxRing + 1, false},
		{3, 0, math.MaxInt, false},
		{3, 0, math.MinInt, false},
	} {
		x, e := total.New(c.n, c.self, c.queue)
		if c.right != (e == api.OK) || c.right != (x != nil) || e != api.OK && e != api.ErrArg {
			t.Errorf("New(%d, %d, %d) = %v, %d", c.n, c.self, c.queue, x, e)
		}
	}
}

// P17.1: no view, nothing known.
func TestNothingAtFirst(t *testing.T) {
	x := nodeOf(t, 1, 0, 1)
	knows(t, x, empty())
	quiet(t, x)
	takes(t, x, "")
	if x.Primary() || x.Waiting() != 0 {
		t.Errorf("Primary %t, Waiting %d", x.Primary(), x.Waiting())
	}
	for _, m := range [][]byte{nil, {1}, all(t, empty()), one(t, "ax")} {
		for _, from := range []int{0, -1, 1, 99} {
			want(t, "Recv", x.Recv(from, m), api.ErrState)
			want(t, "Safe", x.Safe(from, m), api.ErrState)
		}
	}
	knows(t, x, empty())
	quiet(t, x)
}

// A nil object.
func TestNil(t *testing.T) {
	var x *total.Total
	want(t, "Bcast", x.Bcast(nil), api.ErrNone)
	want(t, "Bcast", x.Bcast(make([]byte, api.MaxMsg+1)), api.ErrNone)
	want(t, "View", x.View(view(1, 1)), api.ErrNone)
	want(t, "View", x.View(api.View{}), api.ErrNone)
	want(t, "Sent", x.Sent(), api.ErrNone)
	for _, from := range []int{0, -1, 99} {
		want(t, "Recv", x.Recv(from, one(t, "ax")), api.ErrNone)
		want(t, "Recv", x.Recv(from, nil), api.ErrNone)
		want(t, "Safe", x.Safe(from, one(t, "ax")), api.ErrNone)
		want(t, "Safe", x.Safe(from, nil), api.ErrNone)
	}
	if i, e := x.Take(); i.From != 0 || i.M != nil || e != api.ErrNone {
		t.Errorf("Take = %v, %d", i, e)
	}
	if m, ok := x.Next(); m != nil || ok {
		t.Errorf("Next = %v, %t", m, ok)
	}
	if x.Primary() || x.Waiting() != 0 || !same(x.Summary(), api.Summary{}) {
		t.Errorf("Primary %t, Waiting %d, Summary %v", x.Primary(), x.Waiting(), x.Summary())
	}
}

// P17.1: how long a message may be.
func TestLongMessages(t *testing.T) {
	x := nodeOf(t, 2, 0, 3)
	for _, n := range []int{api.MaxMsg + 1, api.MaxMsg + 2, api.MaxBytes} {
		want(t, "Bcast", x.Bcast(make([]byte, n)), api.ErrLong)
	}
	want(t, "Bcast", x.Bcast(make([]byte, api.MaxMsg)), api.OK)
	want(t, "Bcast", x.Bcast(nil), api.OK)
	want(t, "Bcast", x.Bcast([]byte{}), api.OK)
	if x.Waiting() != 3 {
		t.Fatalf("Waiting = %d", x.Waiting())
	}
	enters(t, x, view(1, 3))
	v := id(1, 0)
	knows(t, x, api.Summary{Con: []api.Entry{{L: of(v, 1, 0), M: make([]byte, api.MaxMsg)}, {L: of(v, 2, 0)}, {L: of(v, 3, 0)}}, Next: 1})
	want(t, "Bcast", x.Bcast(make([]byte, api.MaxMsg+1)), api.ErrLong)
	if s := x.Summary(); len(s.Con) != 3 {
		t.Errorf("Summary = %v", s)
	}
}

// P17.1, P7: delay has no more than its room, and a message that is refused isn't there.
func TestRoom(t *testing.T) {
	for _, queue := range []int{1, 2, 5, api.MaxOwn - 1} {
		x := nodeOf(t, 3, 1, queue)
		for i := range queue {
			if x.Waiting() != i {
				t.Fatalf("Waiting = %d, want %d", x.Waiting(), i)
			}
			bcasts(t, x, fmt.Sprint("m", i))
		}
		for range 3 {
			want(t, "Bcast", x.Bcast([]byte("no")), api.ErrBusy)
			want(t, "Bcast", x.Bcast(make([]byte, api.MaxMsg+1)), api.ErrLong)
		}
		if x.Waiting() != queue {
			t.Fatalf("Waiting = %d, want %d", x.Waiting(), queue)
		}
		knows(t, x, empty())
		enters(t, x, view(1, 7))
		if x.Waiting() != 0 {
			t.Fatalf("Waiting = %d in a view", x.Waiting())
		}
		// In a view none waits, so that there is room.
		bcasts(t, x, "last")
		var con []api.Entry
		for i := range queue {
			con = append(con, api.Entry{L: of(id(1, 0), uint64(i+1), 1), M: fmt.Append(nil, "m", i)})
		}
		con = append(con, api.Entry{L: of(id(1, 0), uint64(queue+1), 1), M: []byte("last")})
		knows(t, x, api.Summary{Con: con, Next: 1})
	}
}

// P17.1, P7: MaxOwn messages are accepted, in a view or not, and no more.
func TestMaxOwn(t *testing.T) {
	for _, before := range []int{0, 1, 20, api.MaxOwn - 1, api.MaxOwn} {
		x := nodeOf(t, 1, 0, api.MaxRing)
		bcasts(t, x, strings.Repeat("a ", before))
		if before == api.MaxOwn {
			want(t, "Bcast", x.Bcast([]byte("b")), api.ErrBusy)
		}
		enters(t, x, view(1, 1))
		bcasts(t, x, strings.Repeat("a ", api.MaxOwn-before))
		for n := range uint64(3) {
			want(t, "Bcast", x.Bcast([]byte("b")), api.ErrBusy)
			want(t, "Bcast", x.Bcast(nil), api.ErrBusy)
			want(t, "Bcast", x.Bcast(make([]byte, api.MaxMsg+1)), api.ErrLong)
			if s := x.Summary(); len(s.Con) != api.MaxOwn || x.Waiting() != 0 {
				t.Fatalf("%d entries, %d wait", len(s.Con), x.Waiting())
			}
			enters(t, x, view(2+n, 1))
		}
		// That they are delivered makes no room, either.
		m := sendsAll(t, x)
		recvs(t, x, 0, m)
		safes(t, x, 0, m)
		takes(t, x, strings.TrimSpace(strings.Repeat("0a ", api.MaxOwn)))
		want(t, "Bcast", x.Bcast([]byte("b")), api.ErrBusy)
	}
}

// P17.1: labels are of the view, of the node, and rise; the entries are in con and in buffer, in their order, whatever the status.
func TestLabels(t *testing.T) {
	v := api.View{ID: id(7, 2), Set: 0b1100}
	x := nodeOf(t, 4, 3, 8)
	bcasts(t, x, "a b")
	enters(t, x, v)
	bcasts(t, x, "c")
	m := sendsAll(t, x)
	bcasts(t, x, "d")
	quiet(t, x)
	recvs(t, x, 3, m)
	quiet(t, x)
	recvs(t, x, 2, all(t, empty()))
	bcasts(t, x, "e")
	if x.Waiting() != 0 {
		t.Errorf("Waiting = %d", x.Waiting())
	}
	var con []api.Entry
	for i, w := range strings.Fields("a b c d e") {
		con = append(con, api.Entry{L: of(v.ID, uint64(i+1), 3), M: []byte(w)})
	}
	s := x.Summary()
	if !sameEntries(s.Con, con) {
		t.Fatalf("Con = %v", s.Con)
	}
	for _, y := range con {
		sendsOne(t, x, y.L, string(y.M))
		knows(t, x, s)
	}
	quiet(t, x)
	bcasts(t, x, "f")
	sendsOne(t, x, of(v.ID, 6, 3), "f")
	quiet(t, x)
}
