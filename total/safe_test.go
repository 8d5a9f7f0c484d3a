package total_test

import (
	"fmt"
	"strings"
	"testing"

	"folkmoot/api"
)

// P17.4: entries that are safe are confirmed and delivered in the order, as far as all ahead of them are.
func TestSafeEntries(t *testing.T) {
	x := nodeOf(t, 3, 0, 1)
	settles(t, x, 0, view(1, 3), map[int]api.Summary{1: empty()})
	for _, w := range strings.Fields("dw ax cy bz") {
		recvs(t, x, 1, one(t, w))
	}
	takes(t, x, "")
	safes(t, x, 1, one(t, "ax"))
	safes(t, x, 1, one(t, "bz"))
	knows(t, x, summary("ax bz cy dw", "dacb", 1, id(1, 0)))
	takes(t, x, "")
	safes(t, x, 1, one(t, "dw"))
	knows(t, x, summary("ax bz cy dw", "dacb", 3, id(1, 0)))
	takes(t, x, "2w 1x")
	safes(t, x, 1, one(t, "dw"))
	takes(t, x, "")
	safes(t, x, 0, one(t, "cy"))
	knows(t, x, summary("ax bz cy dw", "dacb", 5, id(1, 0)))
	takes(t, x, "1y 2z")
	// One that comes behind all that was confirmed.
	recvs(t, x, 1, one(t, "e"))
	takes(t, x, "")
	safes(t, x, 1, one(t, "e"))
	takes(t, x, "1")
}

// P17.4: a safe entry isn't received by that, and what it brings isn't looked at.
func TestSafeIsNotRecv(t *testing.T) {
	x := nodeOf(t, 1, 0, 1)
	settles(t, x, 0, view(1, 1), nil)
	safes(t, x, 0, one(t, "ax"))
	knows(t, x, api.Summary{Next: 1, High: id(1, 0)})
	safes(t, x, 0, all(t, summary("bx", "b", 2, id(1, 0))))
	knows(t, x, api.Summary{Next: 1, High: id(1, 0)})
	recvs(t, x, 0, one(t, "ay"))
	recvs(t, x, 0, one(t, "by"))
	knows(t, x, summary("ay by", "ab", 1, id(1, 0)))
	safes(t, x, 0, one(t, "bz"))
	takes(t, x, "1y 2y")
}

// P17.4: what was told is safe when all summaries are, and not before.
func TestSafeSummaries(t *testing.T) {
	for last := range 3 {
		x := nodeOf(t, 5, 1, 1)
		settles(t, x, 1, view(1, 7), map[int]api.Summary{0: summary("ax bx", "b", 1, id(0, 0)), 2: summary("cx", "", 1, id(0, 0))})
		for range 2 {
			for i := range 3 {
				if i != last {
					secures(t, x, i)
				}
			}
		}
		recvs(t, x, 0, one(t, "dx"))
		knows(t, x, summary("ax bx cx dx", "abcd", 1, id(1, 0)))
		takes(t, x, "")
		secures(t, x, last)
		knows(t, x, summary("ax bx cx dx", "abcd", 4, id(1, 0)))
		takes(t, x, "1x 2x 1x")
		safes(t, x, 0, one(t, "dx"))
		takes(t, x, "2x")
	}
}

// P17.4: next begins where somebody's was, and what was confirmed elsewhere is delivered.
func TestConfirmedElsewhere(t *testing.T) {
	x := nodeOf(t, 4, 0, 1)
	settles(t, x, 0, view(5, 3), map[int]api.Summary{1: summary("ax bx cx", "cab", 3, id(4, 0))})
	knows(t, x, summary("ax bx cx", "cab", 3, id(4, 0)))
	// No primary view is needed to deliver what is confirmed.
	takes(t, x, "1x 1x")
	// But for going on one is.
	secures(t, x, 0, 1)
	safes(t, x, 1, one(t, "bx"))
	knows(t, x, summary("ax bx cx", "cab", 3, id(4, 0)))
	takes(t, x, "")
	settles(t, x, 0, view(6, 7), map[int]api.Summary{1: empty(), 2: empty()})
	takes(t, x, "")
	secures(t, x, 0, 1, 2)
	takes(t, x, "2x")
}

// P17.4: nothing becomes safe in a view that isn't a primary one.
func TestSafeInOtherViews(t *testing.T) {
	x := nodeOf(t, 2, 0, 1)
	settles(t, x, 0, view(1, 1), nil)
	recvs(t, x, 0, one(t, "ax"))
	safes(t, x, 0, one(t, "ax"))
	secures(t, x, 0)
	takes(t, x, "")
	knows(t, x, summary("ax", "", 1, id(0, 0)))
	// Even if there is an order to go on in.
	x = nodeOf(t, 4, 0, 1)
	settles(t, x, 0, view(1, 3), map[int]api.Summary{1: summary("ax bx", "ab", 1, id(0, 0))})
	safes(t, x, 1, one(t, "ax"))
	secures(t, x, 0, 1)
	knows(t, x, summary("ax bx", "ab", 1, id(0, 0)))
	takes(t, x, "")
}

// P17.4: Take asks for the order and for the message, and goes on when they are there.
func TestTakeWaits(t *testing.T) {
	x := nodeOf(t, 4, 0, 1)
	// b is confirmed, but its message isn't known.
	settles(t, x, 0, view(5, 3), map[int]api.Summary{1: summary("ax cx", "abc", 4, id(4, 0))})
	takes(t, x, "1x")
	takes(t, x, "")
	recvs(t, x, 1, one(t, "by"))
	takes(t, x, "2y 1x")
	// Three are confirmed, but the order has just one of them.
	x = nodeOf(t, 4, 0, 1)
	settles(t, x, 0, view(5, 3), map[int]api.Summary{1: summary("ax bx cx", "abc", 4, id(4, 0))})
	settles(t, x, 0, view(6, 3), map[int]api.Summary{1: summary("", "a", 2, id(5, 0))})
	knows(t, x, summary("ax bx cx", "a", 4, id(5, 0)))
	takes(t, x, "1x")
	// What is behind the order isn't confirmed by anybody.
	x = nodeOf(t, 1, 0, 1)
	settles(t, x, 0, view(1, 1), nil)
	bcasts(t, x, "a b")
	m := sends(t, x)
	recvs(t, x, 0, m)
	takes(t, x, "")
	safes(t, x, 0, m)
	takes(t, x, "0a")
}

// P17.4: what is delivered isn't delivered again, whatever the next views are.
func TestTakeOnce(t *testing.T) {
	x := nodeOf(t, 1, 0, 2)
	var got []string
	for n := range uint64(10) {
		bcasts(t, x, fmt.Sprint("m", n))
		enters(t, x, view(n+1, 1))
		bcasts(t, x, fmt.Sprint("n", n))
		for m, ok := x.Next(); ok; m, ok = x.Next() {
			want(t, "Sent", x.Sent(), api.OK)
			recvs(t, x, 0, m)
			safes(t, x, 0, m)
		}
		for i, e := x.Take(); e == api.OK; i, e = x.Take() {
			got = append(got, string(i.M))
		}
	}
	if s := strings.Join(got, " "); s != "m0 n0 m1 n1 m2 n2 m3 n3 m4 n4 m5 n5 m6 n6 m7 n7 m8 n8 m9 n9" {
		t.Errorf("it takes %s", s)
	}
}

// P1, P17.3, P17.4: far more entries than clients can have come, and each is found.
func TestManyEntries(t *testing.T) {
	const many = 50000
	x := nodeOf(t, 2, 0, 1)
	settles(t, x, 0, view(1, 3), map[int]api.Summary{1: empty()})
	for i := range uint64(many) {
		recvs(t, x, 1, oneOf(t, of(id(5, 1), many-i, 1), "m"))
	}
	for i := range uint64(many) {
		safes(t, x, 1, oneOf(t, of(id(5, 1), i+1, 1), "m"))
	}
	s := x.Summary()
	if len(s.Con) != many || len(s.Ord) != many || s.Next != many+1 || s.Ord[0].Seq != many || s.Con[0].L.Seq != 1 {
		t.Fatalf("%d entries, %d in order, next is %d", len(s.Con), len(s.Ord), s.Next)
	}
	for i := range many {
		if y, e := x.Take(); e != api.OK || y.From != 1 || string(y.M) != "m" {
			t.Fatalf("%d: Take = %v, %d", i, y, e)
		}
	}
	takes(t, x, "")
}
