package total_test

import (
	"testing"

	"folkmoot/api"
	"folkmoot/content"
	"folkmoot/exchange"
	"folkmoot/ident"
)

// wrongBytes: what is no message of a view.
func wrongBytes(t *testing.T) [][]byte {
	o, a := one(t, "ax"), all(t, summary("ax", "a", 2, id(1, 0)))
	return [][]byte{nil, {}, {0}, {content.One}, {content.All}, {3}, o[:len(o)-1], a[:len(a)-1], append(o, 0), append(a, 0)}
}

// P17.3, P17.4: the errors, in their order; beside them nothing changes.
func TestErrorsOfMessages(t *testing.T) {
	x := nodeOf(t, 4, 1, 1)
	right := all(t, summary("ax", "a", 2, id(9, 0)))
	want(t, "Recv", x.Recv(0, right), api.ErrState)
	want(t, "Safe", x.Safe(0, right), api.ErrState)
	want(t, "Recv", x.Recv(9, nil), api.ErrState)
	want(t, "Safe", x.Safe(9, nil), api.ErrState)
	enters(t, x, view(1, 0b1011))
	sends(t, x)
	was := x.Summary()
	for _, from := range []int{-1, 2, 4, 15, 16, 17, 64, -64, 1 << 40} {
		for _, m := range append(wrongBytes(t), right, one(t, "ax")) {
			want(t, "Recv", x.Recv(from, m), api.ErrArg)
			want(t, "Safe", x.Safe(from, m), api.ErrArg)
		}
	}
	for _, from := range []int{0, 1, 3} {
		for _, m := range wrongBytes(t) {
			want(t, "Recv", x.Recv(from, m), api.ErrForm)
			want(t, "Safe", x.Safe(from, m), api.ErrForm)
		}
	}
	knows(t, x, was)
	recvs(t, x, 0, right)
	was = x.Summary()
	for _, s := range []api.Summary{summary("ax", "a", 2, id(9, 0)), summary("by", "b", 1, id(9, 9)), empty()} {
		want(t, "Recv", x.Recv(0, all(t, s)), api.ErrState)
		knows(t, x, was)
	}
	want(t, "Recv", x.Recv(0, nil), api.ErrForm)
	want(t, "Recv", x.Recv(2, right), api.ErrArg)
	// Nobody else has told.
	quiet(t, x)
	recvs(t, x, 1, all(t, empty()))
	want(t, "Recv", x.Recv(1, right), api.ErrState)
	recvs(t, x, 3, all(t, empty()))
	want(t, "Recv", x.Recv(3, right), api.ErrState)
	want(t, "Recv", x.Recv(0, right), api.ErrState)
	knows(t, x, summary("ax", "a", 2, id(1, 0)))
	// Of Safe it is no error that a summary comes twice.
	for range 2 {
		safes(t, x, 0, right)
		safes(t, x, 3, right)
	}
	knows(t, x, summary("ax", "a", 2, id(1, 0)))
}

// P17.3: an entry, in a primary view and in another one, in each status.
func TestEntries(t *testing.T) {
	for _, n := range []int{3, 4} {
		primary := n == 3
		x := nodeOf(t, n, 0, 1)
		enters(t, x, view(1, 3))
		ordered := func(s api.Summary) api.Summary {
			if !primary {
				s.Ord = nil
			}
			return s
		}
		recvs(t, x, 1, one(t, "bx"))
		knows(t, x, ordered(summary("bx", "b", 1, id(0, 0))))
		m := sendsAll(t, x)
		recvs(t, x, 1, one(t, "axy"))
		knows(t, x, ordered(summary("axy bx", "ba", 1, id(0, 0))))
		// The first one of a label stays, and stands but once in the order.
		recvs(t, x, 0, one(t, "by"))
		recvs(t, x, 1, one(t, "a"))
		knows(t, x, ordered(summary("axy bx", "ba", 1, id(0, 0))))
		recvs(t, x, 1, all(t, summary("a by cz", "", 1, id(0, 0))))
		knows(t, x, ordered(summary("axy bx cz", "ba", 1, id(0, 0))))
		recvs(t, x, 0, m)
		s := x.Summary()
		recvs(t, x, 0, one(t, "e"))
		recvs(t, x, 1, one(t, "dx"))
		recvs(t, x, 1, one(t, "e"))
		recvs(t, x, 1, one(t, "c"))
		s.Con = entries("axy bx cz dx e")
		if primary {
			s.Ord = append(s.Ord, labels("ed")...)
		}
		knows(t, x, s)
		takes(t, x, "")
	}
}

// P17.1, P17.3: of a label that somebody else had used the first message stays, too.
func TestOwnLabelThatIsKnown(t *testing.T) {
	x := nodeOf(t, 1, 0, 1)
	enters(t, x, view(1, 1))
	l := of(id(1, 0), 1, 0)
	recvs(t, x, 0, oneOf(t, l, "first"))
	bcasts(t, x, "second")
	knows(t, x, api.Summary{Con: []api.Entry{{L: l, M: []byte("first")}}, Ord: []api.Label{l}, Next: 1})
}

// P17.3: what follows when all have told, in a primary view and in another one.
func TestSettle(t *testing.T) {
	told := map[int]api.Summary{
		1: summary("ax cx ex", "ca", 2, id(3, 1)),
		2: summary("bx cy gx", "bc", 3, id(3, 0)),
		3: summary("dx", "eb", 1, id(3, 1)),
	}
	for _, c := range []struct {
		n    int
		want api.Summary
	}{
		{4, summary("ax bx cx dx ex gx", "ebacdg", 3, id(7, 0))},
		{8, summary("ax bx cx dx ex gx", "eb", 3, id(3, 1))},
	} {
		x := nodeOf(t, c.n, 0, 1)
		settles(t, x, 0, view(7, 15), told)
		knows(t, x, c.want)
	}
	// The same by what layer 16 tells.
	var l []exchange.Told
	for i := range 4 {
		s, ok := told[i]
		if !ok {
			s = empty()
		}
		l = append(l, exchange.Told{Node: i, S: s})
	}
	x := nodeOf(t, 4, 0, 1)
	settles(t, x, 0, view(7, 15), told)
	knows(t, x, api.Summary{Con: exchange.Known(l), Ord: exchange.Full(l), Next: exchange.Next(l), High: id(7, 0)})
	x = nodeOf(t, 8, 0, 1)
	settles(t, x, 0, view(7, 15), told)
	knows(t, x, api.Summary{Con: exchange.Known(l), Ord: exchange.Short(l), Next: exchange.Next(l), High: exchange.High(l)})
}

// P17.3: it waits for all of the view, whoever is the last one, and for the own summary to be sent.
func TestSettleWaits(t *testing.T) {
	const set = 0b10111
	for last := range 5 {
		if !ident.Has(set, last) {
			continue
		}
		x := nodeOf(t, 5, 2, 1)
		enters(t, x, view(4, set))
		sends(t, x)
		for _, i := range ident.List(set) {
			if i != last {
				recvs(t, x, i, all(t, summary("ax", "a", 2, id(1, i))))
				recvs(t, x, i, one(t, "bx"))
				if s := x.Summary(); s.Next != 1 || s.High != id(0, 0) || len(s.Ord) != 1 || s.Ord[0] != named('b') {
					t.Fatalf("the node %d hasn't told, but %v", last, s)
				}
			}
		}
		recvs(t, x, last, all(t, summary("cx", "", 1, id(0, 0))))
		knows(t, x, summary("ax bx cx", "ac", 2, id(4, 0)))
	}
}

// P17.2, P17.3: when all have told ahead of Sent, the status is Collect behind it, and stays so in this view, whatever comes.
func TestAllToldAheadOfSent(t *testing.T) {
	for _, n := range []int{2, 4} {
		primary := n == 2
		x := nodeOf(t, n, 0, 2)
		bcasts(t, x, "m")
		enters(t, x, view(1, 3))
		m, _ := x.Next()
		recvs(t, x, 0, m)
		told := all(t, summary("ax", "a", 2, id(0, 0)))
		recvs(t, x, 1, told)
		l := of(id(1, 0), 1, 0)
		s := api.Summary{Con: append([]api.Entry{{L: l, M: []byte("m")}}, entries("ax")...), Next: 1}
		knows(t, x, s)
		sendsAll(t, x)
		knows(t, x, s)
		quiet(t, x)
		want(t, "Recv", x.Recv(0, m), api.ErrState)
		want(t, "Recv", x.Recv(1, told), api.ErrState)
		knows(t, x, s)
		recvs(t, x, 1, one(t, "by"))
		s.Con = append(s.Con, entries("by")...)
		if primary {
			s.Ord = labels("b")
		}
		knows(t, x, s)
		secures(t, x, 0)
		bcasts(t, x, "n")
		quiet(t, x)
		// The next view goes on from what is known.
		settles(t, x, 0, view(2, 3), map[int]api.Summary{1: empty()})
		s = x.Summary()
		if len(s.Con) != 4 || s.Next != 1 || primary && (len(s.Ord) != 4 || s.High != id(2, 0)) || !primary && (len(s.Ord) != 0 || s.High != id(0, 0)) {
			t.Fatalf("%d nodes: Summary = %v", n, s)
		}
		bcasts(t, x, "o")
		sendsOne(t, x, of(id(2, 0), 1, 0), "o")
	}
}

// P17.3: what all told is gone on from: an order is taken over, even if it has less.
func TestSettleAgain(t *testing.T) {
	x := nodeOf(t, 4, 0, 2)
	settles(t, x, 0, view(1, 7), map[int]api.Summary{1: summary("ax bx", "ab", 1, id(0, 0)), 2: empty()})
	knows(t, x, summary("ax bx", "ab", 1, id(1, 0)))
	settles(t, x, 0, view(3, 3), map[int]api.Summary{1: summary("cx", "c", 2, id(2, 0))})
	knows(t, x, summary("ax bx cx", "c", 2, id(2, 0)))
	// The own order counts if no primary view is above the own one, and the own node is the greatest that knows of it.
	settles(t, x, 0, view(4, 3), map[int]api.Summary{1: summary("dx", "d", 1, id(1, 9))})
	knows(t, x, summary("ax bx cx dx", "c", 2, id(2, 0)))
	settles(t, x, 0, view(5, 3), map[int]api.Summary{1: summary("", "dc", 1, id(2, 0))})
	knows(t, x, summary("ax bx cx dx", "dc", 2, id(2, 0)))
	settles(t, x, 0, view(6, 11), map[int]api.Summary{1: empty(), 3: empty()})
	knows(t, x, summary("ax bx cx dx", "dcab", 2, id(6, 0)))
	// What was told is told no more: none's summaries make nobody forget.
	settles(t, x, 0, view(7, 1), nil)
	knows(t, x, summary("ax bx cx dx", "dcab", 2, id(6, 0)))
}
