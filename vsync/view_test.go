package vsync_test

import (
	"fmt"
	"math"
	"strings"
	"testing"

	"folkmoot/api"
	"folkmoot/frame"
	"folkmoot/vsync"
)

// P14.3: the leader puts all messages into one order, and tells it to each other node.
func TestLeaderOrders(t *testing.T) {
	v := full(3)
	g := leads(t, config(3))
	comes(t, g, up(2, v.ID, 0, 0, "a"), api.OK)
	send(t, g, "b", api.OK)
	comes(t, g, up(1, v.ID, 0, 0, "c"), api.OK)
	happened(t, g, received(v, 2, "a"), sent(v, "b"), received(v, 0, "b"), received(v, 1, "c"))
	links(t, g, 0,
		out{1, down(0, v.ID, 0, 1, 0, item(2, "a"), item(0, "b"))},
		out{2, down(0, v.ID, 0, 1, 0, item(2, "a"), item(0, "b"))})
	comes(t, g, up(1, v.ID, 1, 2), api.OK)
	happened(t, g)
	comes(t, g, up(2, v.ID, 1, 2), api.OK)
	happened(t, g, safe(v, 2, "a"), safe(v, 0, "b"))
	links(t, g, 0,
		out{1, down(0, v.ID, 2, 1, 2, item(1, "c"))},
		out{2, down(0, v.ID, 2, 1, 2, item(1, "c"))})
	comes(t, g, up(2, v.ID, 1, 3), api.OK)
	// what was sent before comes late, and does nothing
	comes(t, g, up(2, v.ID, 0, 0, "a"), api.OK)
	comes(t, g, up(1, v.ID, 1, 2), api.OK)
	happened(t, g)
	comes(t, g, up(1, v.ID, 1, 3), api.OK)
	happened(t, g, safe(v, 1, "c"))
	links(t, g, 0, out{1, down(0, v.ID, 3, 1, 3)}, out{2, down(0, v.ID, 3, 1, 3)})
}

// P14.3: another node receives the leader's order, its own messages among it, and is told how many are safe.
func TestFollowerReceives(t *testing.T) {
	v := full(3)
	g := follows(t, config(3), 2)
	send(t, g, "x", api.OK)
	happened(t, g, sent(v, "x"))
	links(t, g, 2, out{0, up(2, v.ID, 0, 0, "x")})
	comes(t, g, down(0, v.ID, 0, 1, 0, item(1, "a"), item(2, "x")), api.OK)
	happened(t, g, received(v, 1, "a"), received(v, 2, "x"))
	links(t, g, 2, out{0, up(2, v.ID, 1, 2)})
	comes(t, g, down(0, v.ID, 2, 1, 1, item(0, "b")), api.OK)
	happened(t, g, safe(v, 1, "a"), received(v, 0, "b"))
	comes(t, g, down(0, v.ID, 3, 1, 3), api.OK)
	happened(t, g, safe(v, 2, "x"), safe(v, 0, "b"))
	// fewer were safe before
	comes(t, g, down(0, v.ID, 2, 1, 1, item(0, "b")), api.OK)
	happened(t, g)
	links(t, g, 2, out{0, up(2, v.ID, 1, 3)})
}

// P14.3, P19.2: what wasn't received isn't safe, whatever is told.
func TestSafeIsReceived(t *testing.T) {
	v := full(2)
	g := follows(t, config(2), 1)
	comes(t, g, down(0, v.ID, 0, 0, math.MaxUint64, item(0, "a"), item(0, "b")), api.OK)
	happened(t, g, received(v, 0, "a"), safe(v, 0, "a"), received(v, 0, "b"), safe(v, 0, "b"))
	comes(t, g, down(0, v.ID, 2, 0, 7, item(0, "c")), api.OK)
	happened(t, g, received(v, 0, "c"), safe(v, 0, "c"))
	comes(t, g, propose(0, view(2, 0, 3)), api.OK)
	sends(t, g, 1, out{0, accept(1, id(2, 0), state(v.ID, 3))})
}

// P14.3: nobody waits for ever: each node's messages have their turn.
func TestLeaderIsFair(t *testing.T) {
	c := config(3)
	c.Ring, c.Window = 1, 1
	v := full(3)
	g := leads(t, c)
	turns := map[int]int{}
	base := [3]uint64{}
	for k := range uint64(30) {
		g.Send([]byte{0})
		for i := 1; i < 3; i++ {
			comes(t, g, up(i, v.ID, base[i], k, string([]byte{byte(i)})), api.OK)
		}
		for _, e := range g.Events() {
			if e.Kind == api.ERecv {
				turns[e.From]++
			}
		}
		for _, o := range tickOuts(t, g, 0) {
			base[o.to] = o.f.Ack
		}
	}
	if turns[0] < 9 || turns[1] < 9 || turns[2] < 9 || turns[0]+turns[1]+turns[2] != 30 {
		t.Errorf("of the order each node has %v", turns)
	}
}

// tickOuts: the leader's frames of a tick.
func tickOuts(t *testing.T, g *vsync.Group, self int) []out {
	t.Helper()
	g.Tick()
	var l []out
	for _, o := range taken(t, g, self) {
		if o.f.Kind == api.FDown || o.f.Kind == api.FUp {
			l = append(l, o)
		}
	}
	return l
}

// P14.3, P7: no more than Ring are on their way to a node; others wait at the leader, and behind Ring of a node's with the node.
func TestLeaderWaits(t *testing.T) {
	v := full(3)
	g := leads(t, config(3))
	comes(t, g, up(1, v.ID, 0, 0, "a", "b"), api.OK)
	comes(t, g, up(1, v.ID, 2, 0, "c", "d"), api.OK)
	comes(t, g, up(1, v.ID, 4, 0, "e", "f"), api.OK)
	comes(t, g, up(1, v.ID, 6, 0, "g"), api.OK)
	happened(t, g, received(v, 1, "a"), received(v, 1, "b"), received(v, 1, "c"))
	links(t, g, 0,
		out{1, down(0, v.ID, 0, 6, 0, item(1, "a"), item(1, "b"))},
		out{2, down(0, v.ID, 0, 0, 0, item(1, "a"), item(1, "b"))})
	// for one of them alone there is room: it doesn't help
	comes(t, g, up(1, v.ID, 6, 2, "g"), api.OK)
	happened(t, g)
	comes(t, g, up(2, v.ID, 0, 1), api.OK)
	happened(t, g, safe(v, 1, "a"), received(v, 1, "d"))
	comes(t, g, up(2, v.ID, 0, 2), api.OK)
	happened(t, g, safe(v, 1, "b"), received(v, 1, "e"))
	comes(t, g, up(1, v.ID, 6, 2, "g"), api.OK)
	happened(t, g)
	links(t, g, 0,
		out{1, down(0, v.ID, 2, 7, 2, item(1, "c"), item(1, "d"))},
		out{2, down(0, v.ID, 2, 0, 2, item(1, "c"), item(1, "d"))})
}

// P7: one who tells more and more, but never that any of it is safe, isn't kept in mind beyond Ring.
func TestFollowerKeepsRing(t *testing.T) {
	v := full(2)
	g := follows(t, config(2), 1)
	for k := range uint64(3) {
		comes(t, g, down(0, v.ID, 2*k, 0, 0, item(0, fmt.Sprint(2*k)), item(0, fmt.Sprint(2*k+1))), api.OK)
	}
	happened(t, g, received(v, 0, "0"), received(v, 0, "1"), received(v, 0, "2"))
	// what waits comes when there is room
	comes(t, g, down(0, v.ID, 0, 0, 2), api.OK)
	happened(t, g, safe(v, 0, "0"), safe(v, 0, "1"), received(v, 0, "3"), received(v, 0, "4"))
	comes(t, g, propose(0, view(2, 0, 3)), api.OK)
	sends(t, g, 1, out{0, accept(1, id(2, 0), state(v.ID, 2, item(0, "2"), item(0, "3"), item(0, "4")))})
}

// P14.3: the state that a node tells has as Floor how many are known to be safe, and behind them what it has received.
func TestState(t *testing.T) {
	v, w := full(3), view(2, 0, 7)
	g := follows(t, config(3), 1)
	comes(t, g, down(0, v.ID, 0, 0, 0, item(2, "a"), item(0, "b")), api.OK)
	comes(t, g, down(0, v.ID, 1, 0, 1, item(0, "b"), item(2, "c")), api.OK)
	send(t, g, "not ordered", api.OK)
	g.Events()
	st := state(v.ID, 1, item(0, "b"), item(2, "c"))
	comes(t, g, propose(0, w), api.OK)
	sends(t, g, 1, out{0, accept(1, w.ID, st)})
	// nothing more of that view is received, and the state stays
	comes(t, g, down(0, v.ID, 3, 0, 2, item(2, "d")), api.ErrStale)
	happened(t, g)
	comes(t, g, propose(0, w), api.OK)
	comes(t, g, propose(2, view(2, 2, 7)), api.OK)
	sends(t, g, 1, out{0, accept(1, w.ID, st)}, out{2, accept(1, id(2, 2), st)})
	// the leader's own state, when it proposes
	g = leads(t, config(3))
	comes(t, g, up(1, v.ID, 0, 0, "a", "b"), api.OK)
	comes(t, g, up(2, v.ID, 0, 1), api.OK)
	comes(t, g, up(1, v.ID, 2, 2), api.OK)
	g.Events()
	comes(t, g, beatOf(2, v.ID, id(5, 2)), api.OK)
	g.Tick()
	g.Out()
	x := view(6, 0, 7)
	comes(t, g, accept(1, x.ID, state(v.ID, 2)), api.OK)
	comes(t, g, accept(2, x.ID, state(id(4, 2), 0, item(2, "z"))), api.OK)
	f := commit(0, x, state(v.ID, 1, item(1, "b")), state(id(4, 2), 0, item(2, "z")))
	sends(t, g, 0, out{1, f}, out{2, f})
	happened(t, g, viewed(x))
}

// P14.3: when a new view is installed, what is lacking of the old one is received there first.
func TestInstallReceivesTheRest(t *testing.T) {
	v, w := full(3), view(2, 0, 7)
	g := follows(t, config(3), 1)
	comes(t, g, down(0, v.ID, 0, 0, 0, item(2, "a"), item(0, "b")), api.OK)
	g.Events()
	comes(t, g, propose(0, w), api.OK)
	all := state(v.ID, 1, item(0, "b"), item(2, "c"), item(1, "d"))
	comes(t, g, commit(0, w, all, state(id(1, 2), 0, item(2, "other"))), api.OK)
	happened(t, g, received(v, 2, "c"), received(v, 1, "d"), viewed(w))
	has(t, g, w, true, 7)
	// one who has all of it
	g = follows(t, config(3), 1)
	comes(t, g, down(0, v.ID, 0, 0, 0, item(2, "a"), item(0, "b")), api.OK)
	g.Events()
	comes(t, g, propose(0, w), api.OK)
	comes(t, g, commit(0, w, state(v.ID, 0, item(2, "a"), item(0, "b"))), api.OK)
	happened(t, g, viewed(w))
	// one who had no view
	g = groupOf(t, config(3), 1)
	comes(t, g, propose(0, w), api.OK)
	comes(t, g, commit(0, w, all), api.OK)
	happened(t, g, viewed(w))
	has(t, g, w, true, 2)
}

// P14.3: one who proposes the new view receives the rest, too.
func TestProposerReceivesTheRest(t *testing.T) {
	v := view(3, 1, 7)
	g := groupOf(t, config(3), 0)
	for i := 1; i < 3; i++ {
		comes(t, g, beatOf(i, v.ID, v.ID), api.OK)
	}
	comes(t, g, propose(1, v), api.OK)
	comes(t, g, commit(1, v), api.OK)
	g.Events()
	comes(t, g, up(1, v.ID, 0, 0, "a"), api.OK)
	happened(t, g, received(v, 1, "a"))
	comes(t, g, beatOf(2, v.ID, id(4, 2)), api.OK)
	g.Tick()
	g.Out()
	w := view(5, 0, 7)
	comes(t, g, accept(2, w.ID, state(v.ID, 0, item(1, "a"), item(2, "b"))), api.OK)
	happened(t, g)
	has(t, g, v, false, 7)
	comes(t, g, accept(1, w.ID, state(v.ID, 0)), api.OK)
	happened(t, g, received(v, 2, "b"), viewed(w))
	f := commit(0, w, state(v.ID, 0, item(1, "a"), item(2, "b")))
	sends(t, g, 0, out{1, f}, out{2, f})
}

// P14.3: states that can't be of those who agreed bring nothing, but the view is there.
func TestInstallWithoutTheRest(t *testing.T) {
	v, w := full(2), view(2, 0, 3)
	for _, l := range [][]api.State{
		{},
		{state(id(1, 1), 0, item(0, "a"), item(0, "b"))},
		{state(v.ID, 2, item(0, "c"))},
		{state(v.ID, 0)},
	} {
		g := follows(t, config(2), 1)
		comes(t, g, down(0, v.ID, 0, 0, 0, item(0, "a")), api.OK)
		g.Events()
		comes(t, g, propose(0, w), api.OK)
		comes(t, g, commit(0, w, l...), api.OK)
		happened(t, g, viewed(w))
	}
}

// P14.3: in a new view all begins anew.
func TestNewViewIsNew(t *testing.T) {
	v, w := full(2), view(2, 0, 3)
	g := follows(t, config(2), 1)
	for _, m := range []string{"a", "b", "c"} {
		send(t, g, m, api.OK)
	}
	comes(t, g, down(0, v.ID, 0, 1, 0, item(1, "a"), item(0, "z")), api.OK)
	comes(t, g, down(0, v.ID, 0, 1, 1, item(1, "a"), item(0, "z")), api.OK)
	comes(t, g, propose(0, w), api.OK)
	g.Out()
	g.Events()
	comes(t, g, commit(0, w, state(v.ID, 1, item(0, "z"))), api.OK)
	happened(t, g, viewed(w))
	links(t, g, 1, out{0, up(1, w.ID, 0, 0)})
	for _, m := range []string{"d", "e", "f"} {
		send(t, g, m, api.OK)
	}
	send(t, g, "g", api.ErrBusy)
	happened(t, g, sent(w, "d"), sent(w, "e"), sent(w, "f"))
	comes(t, g, down(0, v.ID, 1, 1, 1, item(0, "z")), api.ErrStale)
	comes(t, g, down(0, w.ID, 0, 1, 0, item(1, "d")), api.OK)
	happened(t, g, received(w, 1, "d"))
	links(t, g, 1, out{0, up(1, w.ID, 1, 1, "e", "f")})
	comes(t, g, propose(0, view(3, 0, 3)), api.OK)
	sends(t, g, 1, out{0, accept(1, id(3, 0), state(w.ID, 0, item(1, "d")))})
}

// P14.3: the leader's own messages that weren't ordered are there no more in the next view.
func TestLeaderBeginsAnew(t *testing.T) {
	v := full(2)
	g := leads(t, config(2))
	for range 6 {
		send(t, g, "a", api.OK)
	}
	send(t, g, "a", api.ErrBusy)
	g.Events()
	comes(t, g, beatOf(1, v.ID, id(2, 1)), api.OK)
	g.Tick()
	w := view(3, 0, 3)
	a := item(0, "a")
	comes(t, g, accept(1, w.ID, state(v.ID, 0)), api.OK)
	happened(t, g, viewed(w))
	g.Out()
	links(t, g, 0, out{1, commit(0, w, state(v.ID, 0, a, a, a))}, out{1, down(0, w.ID, 0, 0, 0)})
	send(t, g, "b", api.OK)
	happened(t, g, sent(w, "b"), received(w, 0, "b"))
}

// P14.3: the least node leads, whoever that is, whoever has proposed the view.
func TestLeastLeads(t *testing.T) {
	v := view(4, 2, 14)
	g := groupOf(t, config(4), 3)
	for i := range 3 {
		comes(t, g, beatOf(i, v.ID, v.ID), api.OK)
	}
	comes(t, g, propose(2, v), api.OK)
	comes(t, g, commit(2, v), api.OK)
	g.Out()
	happened(t, g, viewed(v))
	comes(t, g, down(0, v.ID, 0, 0, 0, item(2, "a")), api.ErrStale)
	comes(t, g, down(2, v.ID, 0, 0, 0, item(2, "a")), api.ErrStale)
	comes(t, g, down(1, v.ID, 0, 0, 0, item(2, "a")), api.OK)
	happened(t, g, received(v, 2, "a"))
	links(t, g, 3, out{1, up(3, v.ID, 0, 1)})
	g = groupOf(t, config(4), 1)
	for _, i := range []int{0, 2, 3} {
		comes(t, g, beatOf(i, v.ID, v.ID), api.OK)
	}
	comes(t, g, propose(2, v), api.OK)
	comes(t, g, commit(2, v), api.OK)
	g.Out()
	send(t, g, "a", api.OK)
	comes(t, g, up(2, v.ID, 0, 0, "b"), api.OK)
	happened(t, g, viewed(v), sent(v, "a"), received(v, 1, "a"), received(v, 2, "b"))
	a, b := item(1, "a"), item(2, "b")
	links(t, g, 1, out{2, down(1, v.ID, 0, 1, 0, a, b)}, out{3, down(1, v.ID, 0, 0, 0, a, b)})
}

// heavy: a message of so many bytes.
func heavy(n int) string { return strings.Repeat("x", n) }

// P14.1, P14.3: of messages that are too long to be sent together as many are sent as fit into a frame.
func TestHeavyMessagesGoUp(t *testing.T) {
	c := config(2)
	c.Ring, c.Window = api.MaxRing, api.MaxWindow
	v := full(2)
	g := follows(t, c, 1)
	most := heavy(api.MaxBytes / 2)
	for range 3 {
		send(t, g, most, api.OK)
	}
	for range 4 {
		send(t, g, heavy(api.MaxBytes/4), api.OK)
	}
	base := uint64(0)
	for _, want := range []int{1, 1, 1, 2, 2, 0} {
		l := tickOuts(t, g, 1)
		if len(l) != 1 || l[0].f.Base != base || len(l[0].f.Msgs) != want {
			t.Fatalf("from %d on %d frames, want one with %d messages", base, len(l), want)
		}
		base += uint64(want)
		comes(t, g, down(0, v.ID, 0, base, 0), api.OK)
	}
}

// P14.3, P7.1: the leader puts no more into the order than nodes can tell in a frame when another view comes.
func TestHeavyMessagesWait(t *testing.T) {
	c := config(3)
	c.Ring, c.Window = api.MaxRing, api.MaxWindow
	v := full(3)
	g := leads(t, c)
	half := heavy(api.MaxBytes / 2)
	send(t, g, heavy(api.MaxBytes/4-1), api.OK)
	send(t, g, half, api.OK)
	send(t, g, "", api.OK)
	send(t, g, half, api.OK)
	if n := count(g.Events(), api.ERecv); n != 2 {
		t.Fatalf("%d are ordered", n)
	}
	l := tickOuts(t, g, 0)
	if len(l) != 2 || len(l[0].f.Items) != 2 || len(l[1].f.Items) != 2 {
		t.Fatalf("%d frames", len(l))
	}
	b := bytesOf(t, accept(1, id(2, 0), api.State{V: v.ID, Items: l[0].f.Items}))
	if len(b) > api.MaxBytes {
		t.Fatalf("the state has %d bytes", len(b))
	}
	comes(t, g, up(1, v.ID, 0, 2), api.OK)
	comes(t, g, up(2, v.ID, 0, 1), api.OK)
	if n := count(g.Events(), api.ERecv); n != 0 {
		t.Fatalf("%d more are ordered", n)
	}
	comes(t, g, up(2, v.ID, 0, 2), api.OK)
	if n := count(g.Events(), api.ERecv); n != 2 {
		t.Fatalf("%d more are ordered", n)
	}
}

// P14.3: many messages are as heavy as one.
func TestManyMessagesWait(t *testing.T) {
	c := config(2)
	c.Ring = 100
	v := full(2)
	g := leads(t, c)
	for range 20 {
		send(t, g, heavy(api.MaxBytes/32), api.OK)
	}
	if n := count(g.Events(), api.ERecv); n != 8 {
		t.Fatalf("%d are ordered", n)
	}
	tickOuts(t, g, 0)
	comes(t, g, up(1, v.ID, 0, 2), api.OK)
	if n := count(g.Events(), api.ERecv); n != 2 {
		t.Fatalf("%d more are ordered", n)
	}
}

func count(l []api.Event, kind byte) int {
	n := 0
	for _, e := range l {
		if e.Kind == kind {
			n++
		}
	}
	return n
}

// P14.3, P20.3: a commit that would be too long tells each node what it lacks of its own view.
func TestHeavyCommit(t *testing.T) {
	g := groupOf(t, config(4), 0)
	for i := 1; i < 4; i++ {
		comes(t, g, beatOf(i, api.ViewID{}, api.ViewID{}), api.OK)
	}
	g.Tick()
	g.Out()
	v := full(4)
	a, b := id(1, 1), id(1, 2)
	// who comes from which view is what their last acceptances told
	comes(t, g, accept(1, v.ID, state(a, 0, item(1, heavy(api.MaxBytes/2)))), api.OK)
	comes(t, g, accept(1, v.ID, state(b, 0)), api.ErrStale)
	comes(t, g, accept(2, v.ID, state(b, 3, item(2, heavy(api.MaxBytes/2)))), api.OK)
	comes(t, g, accept(3, v.ID, state(a, 0)), api.OK)
	happened(t, g, viewed(v))
	for range 2 {
		l := taken(t, g, 0)
		n := 0
		for _, o := range l {
			if o.f.Kind != api.FCommit {
				continue
			}
			n++
			want := map[int]api.ViewID{1: a, 2: b, 3: a}[o.to]
			if o.f.ID != v.ID || o.f.Set != v.Set || len(o.f.States) != 1 || o.f.States[0].V != want || len(o.f.States[0].Items) != 1 {
				t.Fatalf("to %d: %d states", o.to, len(o.f.States))
			}
		}
		if n != 3 {
			t.Fatalf("%d commits", n)
		}
		g.Tick()
	}
	// those that fit go whole
	w := view(2, 0, 15)
	comes(t, g, beatOf(3, v.ID, id(1, 3)), api.OK)
	g.Tick()
	g.Out()
	comes(t, g, accept(1, w.ID, state(a, 0, item(1, "a"))), api.OK)
	comes(t, g, accept(2, w.ID, state(b, 3, item(2, "b"))), api.OK)
	comes(t, g, accept(3, w.ID, state(v.ID, 0)), api.OK)
	f := commit(0, w, state(v.ID, 0), state(a, 0, item(1, "a")), state(b, 3, item(2, "b")))
	if l := taken(t, g, 0); len(l) != 3 || len(l[0].f.States) != 3 || frameText(l[0].f) != frameText(f) {
		t.Fatalf("%v", l)
	}
}

func frameText(f api.Frame) string {
	b, e := frame.Encode(f)
	return fmt.Sprint(b, e)
}
