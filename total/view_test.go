package total_test

import (
	"bytes"
	"math"
	"testing"

	"folkmoot/api"
	"folkmoot/content"
)

// P17.2: which views are refused, and that they change nothing.
func TestStaleViews(t *testing.T) {
	x := nodeOf(t, 3, 1, 2)
	bcasts(t, x, "a")
	stale := func(l ...api.View) {
		t.Helper()
		was, primary, waiting := x.Summary(), x.Primary(), x.Waiting()
		m, ok := x.Next()
		for _, v := range l {
			want(t, "View", x.View(v), api.ErrStale)
			n, still := x.Next()
			if !same(x.Summary(), was) || x.Primary() != primary || x.Waiting() != waiting || ok != still || !bytes.Equal(m, n) {
				t.Fatalf("View(%v) changed something", v)
			}
		}
	}
	stale(api.View{}, api.View{Set: 7}, view(1, 0), view(1, 5), view(9, 1), view(9, 0xfffd), api.View{ID: id(0, -1), Set: 7})
	enters(t, x, api.View{ID: id(5, 2), Set: 7})
	stale(api.View{ID: id(5, 2), Set: 7}, api.View{ID: id(5, 2), Set: 2}, api.View{ID: id(5, 1), Set: 7}, api.View{ID: id(4, 15), Set: 7}, api.View{}, view(1, 7), view(6, 5), view(6, 0), view(math.MaxUint64, 5))
	sends(t, x)
	stale(api.View{ID: id(5, 2), Set: 7}, view(6, 5))
	enters(t, x, api.View{ID: id(5, 3), Set: 7})
	enters(t, x, api.View{ID: id(6, 0), Set: 2})
	enters(t, x, api.View{ID: id(math.MaxUint64, 0), Set: 2})
	enters(t, x, api.View{ID: id(math.MaxUint64, 15), Set: 2})
	stale(api.View{ID: id(math.MaxUint64, 15), Set: 7}, view(1, 7))
}

// P17.1 to P17.4: a number whose N is 0 is none's, whatever its P: with it there is no view.
func TestNumbersOfNoView(t *testing.T) {
	for _, p := range []int{1, 2, api.MaxNodes - 1, api.MaxNodes, math.MaxInt} {
		x := nodeOf(t, 3, 1, 3)
		bcasts(t, x, "a")
		nowhere := func(waiting int) {
			t.Helper()
			quiet(t, x)
			knows(t, x, empty())
			takes(t, x, "")
			if x.Primary() || x.Waiting() != waiting {
				t.Fatalf("(0, %d): Primary %t, Waiting %d, want %d", p, x.Primary(), x.Waiting(), waiting)
			}
			for _, m := range [][]byte{nil, {1}, all(t, empty()), one(t, "ax")} {
				for _, from := range []int{0, 1, -1, 99} {
					want(t, "Recv", x.Recv(from, m), api.ErrState)
					want(t, "Safe", x.Safe(from, m), api.ErrState)
				}
			}
		}
		enters(t, x, api.View{ID: id(0, p), Set: 7})
		nowhere(1)
		bcasts(t, x, "b")
		nowhere(2)
		// It is the one that the next must be above, all the same.
		want(t, "View", x.View(api.View{ID: id(0, p), Set: 7}), api.ErrStale)
		want(t, "View", x.View(api.View{ID: id(0, p-1), Set: 7}), api.ErrStale)
		if p < math.MaxInt {
			enters(t, x, api.View{ID: id(0, p+1), Set: 2})
		}
		bcasts(t, x, "c")
		want(t, "Bcast", x.Bcast([]byte("d")), api.ErrBusy)
		nowhere(3)
		v := id(1, 0)
		enters(t, x, view(1, 7))
		knows(t, x, api.Summary{Con: []api.Entry{{L: of(v, 1, 1), M: []byte("a")}, {L: of(v, 2, 1), M: []byte("b")}, {L: of(v, 3, 1), M: []byte("c")}}, Next: 1})
		if !x.Primary() || x.Waiting() != 0 {
			t.Fatalf("(1, 0) behind (0, %d): Primary %t, Waiting %d", p, x.Primary(), x.Waiting())
		}
		sendsAll(t, x)
	}
}

// P17.4: a primary view has more than half of the nodes.
func TestPrimary(t *testing.T) {
	for _, c := range []struct {
		n       int
		set     uint16
		primary bool
	}{
		{1, 1, true},
		{2, 1, false},
		{2, 3, true},
		{3, 1, false},
		{3, 5, true},
		{4, 3, false},
		{4, 7, true},
		{5, 0b10101, true},
		{5, 0b10001, false},
		{api.MaxNodes, 0xff, false},
		{api.MaxNodes, 0x1ff, true},
		{api.MaxNodes, 0xffff, true},
	} {
		x := nodeOf(t, c.n, 0, 1)
		enters(t, x, view(1, c.set))
		if x.Primary() != c.primary {
			t.Errorf("%d nodes, the set %b: Primary = %t", c.n, c.set, x.Primary())
		}
		enters(t, x, view(2, 1))
		if x.Primary() != (c.n == 1) {
			t.Errorf("%d nodes, one alone: Primary = %t", c.n, x.Primary())
		}
	}
}

// P17.2: what is to be sent, by the status.
func TestNextAndSent(t *testing.T) {
	x := nodeOf(t, 2, 0, 4)
	quiet(t, x)
	bcasts(t, x, "a")
	quiet(t, x)
	enters(t, x, view(1, 3))
	for range 3 {
		m, ok := x.Next()
		if !ok || !bytes.Equal(m, all(t, x.Summary())) {
			t.Fatalf("Next = % x, %t", m, ok)
		}
	}
	// What has come in the meantime is told, too.
	recvs(t, x, 1, one(t, "ax"))
	bcasts(t, x, "b")
	m := sendsAll(t, x)
	if _, _, s, _ := content.Decode(m); len(s.Con) != 3 {
		t.Fatalf("what is sent is %v", s)
	}
	quiet(t, x)
	bcasts(t, x, "c")
	quiet(t, x)
	recvs(t, x, 1, all(t, empty()))
	quiet(t, x)
	recvs(t, x, 0, m)
	v := id(1, 0)
	for range 3 {
		if m, ok := x.Next(); !ok || !bytes.Equal(m, oneOf(t, of(v, 1, 0), "a")) {
			t.Fatalf("Next = % x, %t", m, ok)
		}
	}
	sendsOne(t, x, of(v, 1, 0), "a")
	sendsOne(t, x, of(v, 2, 0), "b")
	sendsOne(t, x, of(v, 3, 0), "c")
	quiet(t, x)
}

// P17.2: a new view begins anew, in each status.
func TestNewView(t *testing.T) {
	for upTo := range 5 {
		x := nodeOf(t, 2, 0, 4)
		bcasts(t, x, "a b")
		enters(t, x, view(1, 3))
		var m []byte
		if upTo > 0 {
			m = sendsAll(t, x)
		}
		if upTo > 1 {
			recvs(t, x, 0, m)
		}
		if upTo > 2 {
			recvs(t, x, 1, all(t, empty()))
		}
		if upTo > 3 {
			sends(t, x)
		}
		enters(t, x, view(2, 3))
		bcasts(t, x, "c")
		m = sendsAll(t, x)
		quiet(t, x)
		// Nobody has told in this view.
		recvs(t, x, 0, m)
		quiet(t, x)
		recvs(t, x, 1, all(t, empty()))
		// What was labelled in the old view isn't sent again, but told.
		sendsOne(t, x, of(id(2, 0), 1, 0), "c")
		quiet(t, x)
		if s := x.Summary(); len(s.Con) != 3 || len(s.Ord) != 3 || s.Next != 1 || s.High != id(2, 0) {
			t.Fatalf("%d: Summary = %v", upTo, s)
		}
	}
}

// P17.2: labels and summaries that were safe in a view aren't in the next one.
func TestNewViewForgetsSafe(t *testing.T) {
	x := nodeOf(t, 2, 0, 4)
	settles(t, x, 0, view(1, 3), map[int]api.Summary{1: summary("ax bx cx", "abc", 1, id(0, 0))})
	safes(t, x, 1, one(t, "bx"))
	safes(t, x, 0, all(t, empty()))
	takes(t, x, "")
	settles(t, x, 0, view(2, 3), map[int]api.Summary{1: empty()})
	safes(t, x, 1, one(t, "ax"))
	takes(t, x, "1x")
	safes(t, x, 1, all(t, empty()))
	takes(t, x, "")
	safes(t, x, 0, all(t, empty()))
	takes(t, x, "2x 1x")
}

// P17.2: what isn't right isn't told.
func TestNextThatIsNotRight(t *testing.T) {
	wrong := api.View{ID: id(3, api.MaxNodes), Set: 3}
	// Its labels aren't right, and so the summary isn't.
	x := nodeOf(t, 2, 0, 4)
	bcasts(t, x, "a")
	enters(t, x, wrong)
	quiet(t, x)
	if s := x.Summary(); len(s.Con) != 1 || s.Con[0].L != of(wrong.ID, 1, 0) {
		t.Fatalf("Summary = %v", s)
	}
	enters(t, x, view(4, 3))
	quiet(t, x)
	// The summary is right, but not the entry, nor the next summary.
	x = nodeOf(t, 2, 0, 4)
	settles(t, x, 0, wrong, map[int]api.Summary{1: empty()})
	bcasts(t, x, "a")
	quiet(t, x)
	knows(t, x, api.Summary{Con: []api.Entry{{L: of(wrong.ID, 1, 0), M: []byte("a")}}, Next: 1, High: wrong.ID})
	enters(t, x, view(4, 3))
	quiet(t, x)
	// One is confirmed that the order hasn't.
	x = nodeOf(t, 4, 0, 4)
	settles(t, x, 0, view(1, 3), map[int]api.Summary{1: summary("", "ab", 3, id(0, 0))})
	knows(t, x, summary("", "ab", 3, id(0, 0)))
	settles(t, x, 0, view(2, 3), map[int]api.Summary{1: summary("", "a", 1, id(1, 1))})
	knows(t, x, summary("", "a", 3, id(1, 1)))
	enters(t, x, view(3, 3))
	quiet(t, x)
}
