package node_test

import (
	"bytes"
	"fmt"
	"testing"

	"folkmoot/api"
	"folkmoot/node"
)

// The frames of the node 0, that leads all views of these tests.

func propose(v api.View) api.Frame {
	return api.Frame{Kind: api.FPropose, ID: v.ID, Set: v.Set}
}

func commit(v api.View, l ...api.State) api.Frame {
	return api.Frame{Kind: api.FCommit, ID: v.ID, Set: v.Set, States: l}
}

// down: messages of the leader's order from base on; so many of the node's own have come, and so many of all are safe.
func down(v api.View, base, ack, safe uint64, l ...api.Item) api.Frame {
	return api.Frame{Kind: api.FDown, ID: v.ID, Base: base, Ack: ack, Safe: safe, Items: l}
}

func item(from int, m string) api.Item {
	return api.Item{From: from, M: []byte(m)}
}

// joins: the view of the node 0 is the node's.
func joins(t *testing.T, n *node.Node, v api.View) {
	t.Helper()
	comes(t, n, beatOf(0))
	comes(t, n, propose(v))
	comes(t, n, commit(v))
	if n.View() != v || !n.Open() {
		t.Fatalf("View = %v, Open = %t", n.View(), n.Open())
	}
}

// begins: the view of both nodes is the node's, and both have told there that they know nothing, which is safe.
func begins(t *testing.T, n *node.Node, v api.View) {
	t.Helper()
	joins(t, n, v)
	none := all(t, api.Summary{Next: 1})
	comes(t, n, down(v, 0, 0, 1, item(0, none)))
	comes(t, n, down(v, 1, 1, 2, item(1, none)))
	knows(t, n, api.Summary{Next: 1, High: v.ID})
}

// P18.2: the example: one who is alone has all at once.
func TestAlone(t *testing.T) {
	n := nodeOf(t, api.Config{Nodes: 1, Beat: 1, Miss: 2, Window: 1, Ring: 1, Queue: 2}, 0)
	bcast(t, n, "a", api.OK)
	got(t, n, "")
	want(t, "Tick", n.Tick(), api.OK)
	v := view(1, 1)
	a, b, c := entry(label(v, 1, 0), "a"), entry(label(v, 2, 0), "b"), entry(label(v, 3, 0), "")
	l := []api.Event{viewed(v)}
	l = append(l, alone(v, 0, all(t, api.Summary{Con: []api.Entry{a}, Next: 1}))...)
	l = append(l, alone(v, 0, one(t, a))...)
	trace(t, n, l...)
	got(t, n, "0a")
	knows(t, n, ordered(2, v.ID, a))
	has(t, n, v, true, 1)
	for _, x := range []api.Entry{b, c} {
		bcast(t, n, string(x.M), api.OK)
		l = append(l, alone(v, 0, one(t, x))...)
		trace(t, n, l...)
	}
	got(t, n, "0a 0b 0")
	sent(t, n, "a b ")
	for range 5 {
		want(t, "Tick", n.Tick(), api.OK)
		want(t, "In", n.In(nil), api.ErrForm)
	}
	trace(t, n, l...)
	got(t, n, "0a 0b 0")
	knows(t, n, ordered(4, v.ID, a, b, c))
}

// P18.2: one who is alone, but not most of the nodes, has views, in which nothing is delivered; nothing is lost, either.
func TestAloneOfThree(t *testing.T) {
	n := nodeOf(t, config(3), 2)
	bcast(t, n, "a", api.OK)
	want(t, "Tick", n.Tick(), api.OK)
	v := api.View{ID: api.ViewID{N: 1, P: 2}, Set: 4}
	a, b := entry(label(v, 1, 2), "a"), entry(label(v, 2, 2), "b")
	bcast(t, n, "b", api.OK)
	l := []api.Event{viewed(v)}
	l = append(l, alone(v, 2, all(t, api.Summary{Con: []api.Entry{a}, Next: 1}))...)
	l = append(l, alone(v, 2, one(t, a))...)
	l = append(l, alone(v, 2, one(t, b))...)
	trace(t, n, l...)
	got(t, n, "")
	sent(t, n, "a b")
	knows(t, n, api.Summary{Con: []api.Entry{a, b}, Next: 1})
}

// P18.2: what the leader of a view puts into order goes to Total, and what Total tells is sent; what is safe is delivered.
func TestFollower(t *testing.T) {
	n := nodeOf(t, config(3), 1)
	bcast(t, n, "a", api.OK)
	v := view(1, 7)
	joins(t, n, v)
	a, b, x := entry(label(v, 1, 1), "a"), entry(label(v, 2, 1), "b"), entry(label(v, 1, 2), "x")
	own := all(t, api.Summary{Con: []api.Entry{a}, Next: 1})
	none := all(t, api.Summary{Next: 1})
	l := []api.Event{viewed(v), event(api.ESend, v, 0, own)}
	trace(t, n, l...)
	// others tell nothing yet: all else waits
	bcast(t, n, "b", api.OK)
	comes(t, n, down(v, 0, 1, 0, item(2, none), item(1, own)))
	l = append(l, event(api.ERecv, v, 2, none), event(api.ERecv, v, 1, own))
	trace(t, n, l...)
	// the last one tells: the order begins, and the entries are sent
	comes(t, n, down(v, 2, 1, 0, item(0, none)))
	l = append(l, event(api.ERecv, v, 0, none), event(api.ESend, v, 0, one(t, a)), event(api.ESend, v, 0, one(t, b)))
	trace(t, n, l...)
	same(t, "Ord", n.Summary().Ord, []api.Label{a.L})
	got(t, n, "")
	// all know of the order: what was told is delivered
	comes(t, n, down(v, 3, 1, 3))
	l = append(l, event(api.ESafe, v, 2, none), event(api.ESafe, v, 1, own), event(api.ESafe, v, 0, none))
	trace(t, n, l...)
	got(t, n, "1a")
	// what is sent now is delivered when it is safe
	comes(t, n, down(v, 3, 3, 3, item(2, one(t, x)), item(1, one(t, a)), item(1, one(t, b))))
	l = append(l, event(api.ERecv, v, 2, one(t, x)), event(api.ERecv, v, 1, one(t, a)), event(api.ERecv, v, 1, one(t, b)))
	trace(t, n, l...)
	got(t, n, "1a")
	comes(t, n, down(v, 6, 3, 4))
	l = append(l, event(api.ESafe, v, 2, one(t, x)))
	got(t, n, "1a 2x")
	comes(t, n, down(v, 6, 3, 6))
	l = append(l, event(api.ESafe, v, 1, one(t, a)), event(api.ESafe, v, 1, one(t, b)))
	trace(t, n, l...)
	got(t, n, "1a 2x 1b")
	knows(t, n, ordered(4, v.ID, a, x, b))
}

// P18.2: what Group doesn't take, as too many wait there, is sent when it takes it, in its order.
func TestBusy(t *testing.T) {
	c := config(2)
	c.Ring, c.Window = 1, 1
	n := nodeOf(t, c, 1)
	v := view(1, 3)
	joins(t, n, v)
	var l []string
	for i, m := range []string{"a", "b", "c"} {
		bcast(t, n, m, api.OK)
		l = append(l, one(t, entry(label(v, uint64(i+1), 1), m)))
	}
	none := all(t, api.Summary{Next: 1})
	behind(t, n, 1, event(api.ESend, v, 0, none))
	comes(t, n, down(v, 0, 0, 1, item(0, none)))
	comes(t, n, down(v, 1, 1, 2, item(1, none)))
	behind(t, n, 6, event(api.ESend, v, 0, l[0]))
	want(t, "Tick", n.Tick(), api.OK)
	behind(t, n, 7)
	comes(t, n, down(v, 2, 2, 2))
	behind(t, n, 7, event(api.ESend, v, 0, l[1]))
	bcast(t, n, "d", api.OK)
	comes(t, n, down(v, 2, 2, 2))
	behind(t, n, 8)
	comes(t, n, down(v, 2, 3, 2))
	behind(t, n, 8, event(api.ESend, v, 0, l[2]))
}

// P18.2: behind an In that answers an error they go on, too: what of it has held may have made room.
func TestGoesOnBehindErrors(t *testing.T) {
	c := config(2)
	c.Ring = 1
	n := nodeOf(t, c, 1)
	v := view(1, 3)
	begins(t, n, v)
	bcast(t, n, "a", api.OK)
	bcast(t, n, "b", api.OK)
	first := len(n.Trace())
	want(t, "In", n.In(bytesOf(t, down(v, 9, 2, 2))), api.ErrArg)
	behind(t, n, first, event(api.ESend, v, 0, one(t, entry(label(v, 2, 1), "b"))))
}

// P18.2: while the view isn't open nothing is sent; what wasn't is told by the summary of the next view, and isn't sent there again as what it was in the old one.
func TestNextView(t *testing.T) {
	n := nodeOf(t, config(2), 1)
	v, w := view(1, 3), view(2, 3)
	begins(t, n, v)
	first := len(n.Trace())
	comes(t, n, propose(w))
	bcast(t, n, "a", api.OK)
	bcast(t, n, "b", api.OK)
	want(t, "Tick", n.Tick(), api.OK)
	behind(t, n, first)
	has(t, n, v, false, 3)
	// what others had of the old view comes ahead of the new one, and is told there
	a, b, x := entry(label(v, 1, 1), "a"), entry(label(v, 2, 1), "b"), entry(label(v, 1, 0), "x")
	comes(t, n, commit(w, api.State{V: v.ID, Floor: 1, Items: []api.Item{item(1, all(t, api.Summary{Next: 1})), item(0, one(t, x))}}))
	own := all(t, api.Summary{Con: []api.Entry{x, a, b}, Ord: []api.Label{x.L}, Next: 1, High: v.ID})
	behind(t, n, first, event(api.ERecv, v, 0, one(t, x)), viewed(w), event(api.ESend, w, 0, own))
	got(t, n, "")
	// the other one had it confirmed
	other := all(t, api.Summary{Con: []api.Entry{x}, Ord: []api.Label{x.L}, Next: 2, High: v.ID})
	comes(t, n, down(w, 0, 1, 0, item(0, other), item(1, own)))
	got(t, n, "0x")
	comes(t, n, down(w, 2, 1, 2))
	got(t, n, "0x 1a 1b")
	behind(t, n, first+3,
		event(api.ERecv, w, 0, other), event(api.ERecv, w, 1, own),
		event(api.ESafe, w, 0, other), event(api.ESafe, w, 1, own))
	sent(t, n, "a b")
	knows(t, n, ordered(4, w.ID, x, a, b))
}

// P18.2: a tick that brings a view of the node alone: what was to be sent in the old one isn't sent in that.
func TestTickBringsAView(t *testing.T) {
	c := config(2)
	c.Miss, c.Ring = 3, 1
	n := nodeOf(t, c, 1)
	v := view(1, 3)
	begins(t, n, v)
	bcast(t, n, "a", api.OK)
	bcast(t, n, "b", api.OK)
	first := len(n.Trace())
	for range c.Miss {
		behind(t, n, first)
		want(t, "Tick", n.Tick(), api.OK)
	}
	w := api.View{ID: api.ViewID{N: 2, P: 1}, Set: 2}
	own := all(t, api.Summary{Con: []api.Entry{entry(label(v, 1, 1), "a"), entry(label(v, 2, 1), "b")}, Next: 1, High: v.ID})
	behind(t, n, first, append([]api.Event{viewed(w)}, alone(w, 1, own)...)...)
	got(t, n, "")
}

// P18.2: what Total refuses is in Trace, and does no more.
func TestRefusedMessages(t *testing.T) {
	n := nodeOf(t, config(2), 1)
	v := view(1, 3)
	begins(t, n, v)
	first, was := len(n.Trace()), n.Summary()
	x := entry(label(v, 1, 0), "x")
	told := all(t, api.Summary{Con: []api.Entry{x}, Ord: []api.Label{x.L}, Next: 2, High: v.ID})
	comes(t, n, down(v, 2, 1, 4, item(0, "no message of Total's"), item(0, told)))
	behind(t, n, first,
		event(api.ERecv, v, 0, "no message of Total's"), event(api.ESafe, v, 0, "no message of Total's"),
		event(api.ERecv, v, 0, told), event(api.ESafe, v, 0, told))
	same(t, "Summary", n.Summary(), was)
	got(t, n, "")
	// it goes on behind them
	comes(t, n, down(v, 4, 1, 5, item(0, one(t, x))))
	got(t, n, "0x")
}

// P18.1, P6: In's errors are Group's, and beside them nothing has changed.
func TestInRefuses(t *testing.T) {
	n := nodeOf(t, config(3), 1)
	v := view(1, 7)
	joins(t, n, v)
	n.Out()
	right := bytesOf(t, down(v, 0, 1, 0, item(0, all(t, api.Summary{Next: 1}))))
	turned := bytes.Clone(right)
	turned[3] ^= 1
	before := fmt.Sprint(n.Trace(), n.Summary(), n.View(), n.Open(), n.Est())
	refuses := func(b []byte, e api.Errno) {
		t.Helper()
		want(t, "In", n.In(b), e)
		same(t, "what the node tells", fmt.Sprint(n.Trace(), n.Summary(), n.View(), n.Open(), n.Est()), before)
	}
	refuses(nil, api.ErrForm)
	refuses(turned, api.ErrSum)
	refuses(make([]byte, api.MaxBytes+1), api.ErrLong)
	refuses(bytesOf(t, api.Frame{Kind: api.FBeat, From: 1}), api.ErrArg)
	refuses(bytesOf(t, api.Frame{Kind: api.FBeat, From: 3}), api.ErrArg)
	refuses(bytesOf(t, down(view(2, 7), 0, 0, 0)), api.ErrStale)
	refuses(bytesOf(t, propose(view(2, 5))), api.ErrForm)
	refuses(bytesOf(t, commit(v)), api.ErrStale)
	if l := n.Out(); len(l) != 0 {
		t.Fatalf("Out = %v", l)
	}
	// it refuses what is late, and says so
	refuses(bytesOf(t, propose(view(1, 7))), api.ErrStale)
	if l := frames(t, n); len(l) != 1 || l[0].Kind != api.FRefuse || l[0].Prom != v.ID {
		t.Fatalf("Out = %v", l)
	}
	want(t, "In", n.In(right), api.OK)
}

// P18.1: Out is Group's: beats, and what Total had to tell, once.
func TestOut(t *testing.T) {
	n := nodeOf(t, config(2), 1)
	bcast(t, n, "a", api.OK)
	v := view(1, 3)
	joins(t, n, v)
	if l := frames(t, n); len(l) != 1 || l[0].Kind != api.FAccept {
		t.Fatalf("Out = %v", l)
	}
	want(t, "Tick", n.Tick(), api.OK)
	l := frames(t, n)
	own := all(t, api.Summary{Con: []api.Entry{entry(label(v, 1, 1), "a")}, Next: 1})
	if len(l) != 2 || l[0].Kind != api.FBeat || l[1].Kind != api.FUp || len(l[1].Msgs) != 1 || string(l[1].Msgs[0]) != own {
		t.Fatalf("Out = %v", l)
	}
}
