package vsync_test

import (
	"fmt"
	"math"
	"slices"
	"testing"

	"folkmoot/api"
	"folkmoot/beat"
	"folkmoot/frame"
	"folkmoot/vsync"
)

func config(n int) api.Config {
	return api.Config{Nodes: n, Beat: 2, Miss: 50, Window: 2, Ring: 3, Queue: 1}
}

func groupOf(t *testing.T, c api.Config, self int) *vsync.Group {
	t.Helper()
	g, e := vsync.New(c, self)
	if g == nil || e != api.OK {
		t.Fatalf("New(%v, %d) = %v, %d", c, self, g, e)
	}
	return g
}

func id(n uint64, p int) api.ViewID { return api.ViewID{N: n, P: p} }

func view(n uint64, p int, set uint16) api.View { return api.View{ID: id(n, p), Set: set} }

func item(from int, m string) api.Item { return api.Item{From: from, M: []byte(m)} }

func state(v api.ViewID, floor int, l ...api.Item) api.State {
	return api.State{V: v, Floor: floor, Items: l}
}

// The frames of a test.

func beatOf(from int, cur, prom api.ViewID) api.Frame {
	return api.Frame{Kind: api.FBeat, From: from, Cur: cur, Prom: prom}
}

func propose(from int, v api.View) api.Frame {
	return api.Frame{Kind: api.FPropose, From: from, ID: v.ID, Set: v.Set}
}

func accept(from int, v api.ViewID, s api.State) api.Frame {
	return api.Frame{Kind: api.FAccept, From: from, ID: v, States: []api.State{s}}
}

func refuse(from int, v, prom api.ViewID) api.Frame {
	return api.Frame{Kind: api.FRefuse, From: from, ID: v, Prom: prom}
}

func commit(from int, v api.View, l ...api.State) api.Frame {
	return api.Frame{Kind: api.FCommit, From: from, ID: v.ID, Set: v.Set, States: l}
}

func up(from int, v api.ViewID, base, ack uint64, l ...string) api.Frame {
	f := api.Frame{Kind: api.FUp, From: from, ID: v, Base: base, Ack: ack}
	for _, m := range l {
		f.Msgs = append(f.Msgs, []byte(m))
	}
	return f
}

func down(from int, v api.ViewID, base, ack, safe uint64, l ...api.Item) api.Frame {
	return api.Frame{Kind: api.FDown, From: from, ID: v, Base: base, Ack: ack, Safe: safe, Items: l}
}

func bytesOf(t *testing.T, f api.Frame) []byte {
	t.Helper()
	b, e := frame.Encode(f)
	if e != api.OK {
		t.Fatalf("Encode(%v) = %d", f, e)
	}
	return b
}

// comes: a frame comes, and In answers so.
func comes(t *testing.T, g *vsync.Group, f api.Frame, want api.Errno) {
	t.Helper()
	if e := g.In(bytesOf(t, f)); e != want {
		t.Fatalf("In(%v) = %d, want %d", f, e, want)
	}
}

// out is a frame, and to whom.
type out struct {
	to int
	f  api.Frame
}

// taken: the frames that a node has to send, once.
func taken(t *testing.T, g *vsync.Group, from int) []out {
	t.Helper()
	l := []out{}
	for _, p := range g.Out() {
		f, e := frame.Decode(p.Bytes)
		if e != api.OK || p.From != from || f.From != from {
			t.Fatalf("a packet that isn't right: %v, %d", p, e)
		}
		l = append(l, out{p.To, f})
	}
	if l := g.Out(); len(l) != 0 {
		t.Fatalf("Out = %v, a second time", l)
	}
	return l
}

// sends: these packets are to be sent.
func sends(t *testing.T, g *vsync.Group, from int, want ...out) {
	t.Helper()
	if got := taken(t, g, from); fmt.Sprint(got) != fmt.Sprint(want) {
		t.Fatalf("Out = %v, want %v", got, want)
	}
}

// The events of a test.

func viewed(v api.View) api.Event { return api.Event{Kind: api.EView, View: v} }

func sent(v api.View, m string) api.Event {
	return api.Event{Kind: api.ESend, View: v, M: []byte(m)}
}

func received(v api.View, from int, m string) api.Event {
	return api.Event{Kind: api.ERecv, View: v, From: from, M: []byte(m)}
}

func safe(v api.View, from int, m string) api.Event {
	return api.Event{Kind: api.ESafe, View: v, From: from, M: []byte(m)}
}

// happened: these events, in this order, and behind them none.
func happened(t *testing.T, g *vsync.Group, want ...api.Event) {
	t.Helper()
	if l := g.Events(); fmt.Sprint(l) != fmt.Sprint(want) {
		t.Fatalf("Events = %v, want %v", l, want)
	}
	if l := g.Events(); len(l) != 0 {
		t.Fatalf("Events = %v, a second time", l)
	}
}

func send(t *testing.T, g *vsync.Group, m string, want api.Errno) {
	t.Helper()
	if e := g.Send([]byte(m)); e != want {
		t.Fatalf("Send of %d bytes = %d, want %d", len(m), e, want)
	}
}

func has(t *testing.T, g *vsync.Group, v api.View, open bool, est uint16) {
	t.Helper()
	if g.View() != v || g.Open() != open || g.Est() != est {
		t.Fatalf("View %v, Open %t, Est %b, want %v, %t, %b", g.View(), g.Open(), g.Est(), v, open, est)
	}
}

// full is the view (1, 0) of so many nodes.
func full(n int) api.View { return view(1, 0, 1<<n-1) }

// leads: the node 0 of so many, which leads the view of all.
func leads(t *testing.T, c api.Config) *vsync.Group {
	t.Helper()
	g := groupOf(t, c, 0)
	for i := 1; i < c.Nodes; i++ {
		comes(t, g, beatOf(i, api.ViewID{}, api.ViewID{}), api.OK)
	}
	g.Tick()
	for i := 1; i < c.Nodes; i++ {
		comes(t, g, accept(i, id(1, 0), api.State{}), api.OK)
	}
	v := full(c.Nodes)
	// their next beats tell it, so that it isn't told to them again
	for i := 1; i < c.Nodes; i++ {
		comes(t, g, beatOf(i, v.ID, v.ID), api.OK)
	}
	has(t, g, v, true, v.Set)
	g.Out()
	happened(t, g, viewed(v))
	return g
}

// follows: another node of so many, in the view of all, that the node 0 leads.
func follows(t *testing.T, c api.Config, self int) *vsync.Group {
	t.Helper()
	g := groupOf(t, c, self)
	v := full(c.Nodes)
	for i := range c.Nodes {
		if i != self {
			comes(t, g, beatOf(i, api.ViewID{}, api.ViewID{}), api.OK)
		}
	}
	comes(t, g, propose(0, v), api.OK)
	comes(t, g, commit(0, v), api.OK)
	has(t, g, v, true, v.Set)
	g.Out()
	happened(t, g, viewed(v))
	return g
}

// links: what a tick brings beside beats.
func links(t *testing.T, g *vsync.Group, self int, want ...out) {
	t.Helper()
	g.Tick()
	got := slices.DeleteFunc(taken(t, g, self), func(o out) bool { return o.f.Kind == api.FBeat })
	if fmt.Sprint(got) != fmt.Sprint(want) {
		t.Fatalf("Out = %v, want %v", got, want)
	}
}

// P14.1
func TestNew(t *testing.T) {
	for _, n := range []int{1, 2, api.MaxNodes} {
		for self := range n {
			g := groupOf(t, config(n), self)
			has(t, g, api.View{}, false, 1<<self)
			sends(t, g, self)
			happened(t, g)
			send(t, g, "a", api.ErrState)
		}
	}
	right := api.Config{Nodes: api.MaxNodes, Beat: api.MaxDelay - 1, Miss: api.MaxDelay, Window: api.MaxWindow, Ring: api.MaxRing, Queue: api.MaxRing}
	groupOf(t, right, 0)
	groupOf(t, api.Config{Nodes: 1, Beat: 1, Miss: 2, Window: 1, Ring: 1, Queue: 1}, 0)
}

// P14.1: beat.New's error.
func TestNewRefuses(t *testing.T) {
	wrong := []func(c *api.Config){
		func(c *api.Config) { c.Nodes = 0 },
		func(c *api.Config) { c.Nodes = api.MaxNodes + 1 },
		func(c *api.Config) { c.Beat = 0 },
		func(c *api.Config) { c.Beat = c.Miss },
		func(c *api.Config) { c.Miss = api.MaxDelay + 1 },
		func(c *api.Config) { c.Window = 0 },
		func(c *api.Config) { c.Window = api.MaxWindow + 1 },
		func(c *api.Config) { c.Ring = 0 },
		func(c *api.Config) { c.Ring = api.MaxRing + 1 },
		func(c *api.Config) { c.Queue = 0 },
		func(c *api.Config) { c.Queue = api.MaxRing + 1 },
	}
	for i, spoil := range wrong {
		c := config(3)
		spoil(&c)
		_, want := beat.New(c, 0)
		if g, e := vsync.New(c, 0); g != nil || e != want || e != api.ErrArg {
			t.Errorf("%d: New = %v, %d, want %d", i, g, e, want)
		}
	}
	for _, self := range []int{-1, 3, 4, math.MinInt, math.MaxInt} {
		if g, e := vsync.New(config(3), self); g != nil || e != api.ErrArg {
			t.Errorf("New(.., %d) = %v, %d", self, g, e)
		}
	}
}

// P1: of nothing there is nothing to be told.
func TestNil(t *testing.T) {
	var g *vsync.Group
	has(t, g, api.View{}, false, 0)
	g.Tick()
	if len(g.Out()) != 0 || len(g.Events()) != 0 {
		t.Error("something happens to nothing")
	}
	for _, m := range [][]byte{nil, {1}, make([]byte, api.MaxBytes)} {
		if g.Send(m) != api.ErrNone || g.In(m) != api.ErrNone {
			t.Error("nothing takes something")
		}
	}
	if e := g.In(bytesOf(t, beatOf(1, api.ViewID{}, api.ViewID{}))); e != api.ErrNone {
		t.Errorf("In = %d", e)
	}
}

// P14.1: which errors Send has, and which of them goes first.
func TestSendErrors(t *testing.T) {
	c := config(3)
	most, more := string(make([]byte, api.MaxBytes/2)), string(make([]byte, api.MaxBytes/2+1))
	g := groupOf(t, c, 1)
	send(t, g, "", api.ErrState)
	send(t, g, most, api.ErrState)
	send(t, g, more, api.ErrLong)
	g = follows(t, c, 1)
	send(t, g, most, api.OK)
	send(t, g, "", api.OK)
	send(t, g, more, api.ErrLong)
	send(t, g, "c", api.OK)
	send(t, g, "d", api.ErrBusy)
	send(t, g, more, api.ErrLong)
	happened(t, g, sent(full(3), most), sent(full(3), ""), sent(full(3), "c"))
	// another view is accepted: this one is open no more
	comes(t, g, propose(0, view(2, 0, 7)), api.OK)
	send(t, g, "d", api.ErrState)
	send(t, g, more, api.ErrLong)
	happened(t, g)
}

// P14.1: messages that the leader has wait no more.
func TestSendWaitsForTheLeader(t *testing.T) {
	v := full(2)
	g := follows(t, config(2), 1)
	for _, m := range []string{"a", "b", "c"} {
		send(t, g, m, api.OK)
	}
	send(t, g, "d", api.ErrBusy)
	links(t, g, 1, out{0, up(1, v.ID, 0, 0, "a", "b")})
	send(t, g, "d", api.ErrBusy)
	comes(t, g, down(0, v.ID, 0, 3, 0), api.ErrArg) // the third one wasn't sent
	send(t, g, "d", api.ErrBusy)
	comes(t, g, down(0, v.ID, 0, 2, 0), api.OK)
	send(t, g, "d", api.OK)
	send(t, g, "e", api.OK)
	send(t, g, "f", api.ErrBusy)
	links(t, g, 1, out{0, up(1, v.ID, 2, 0, "c", "d")})
}

// P14.1, P14.3: as many as are on their way to all the leader orders at once; its own wait behind them.
func TestLeaderSends(t *testing.T) {
	v := full(3)
	g := leads(t, config(3))
	for _, m := range []string{"a", "b", "c", "d", "e", "f"} {
		send(t, g, m, api.OK)
	}
	send(t, g, "g", api.ErrBusy)
	happened(t, g,
		sent(v, "a"), received(v, 0, "a"), sent(v, "b"), received(v, 0, "b"), sent(v, "c"), received(v, 0, "c"),
		sent(v, "d"), sent(v, "e"), sent(v, "f"))
	links(t, g, 0,
		out{1, down(0, v.ID, 0, 0, 0, item(0, "a"), item(0, "b"))},
		out{2, down(0, v.ID, 0, 0, 0, item(0, "a"), item(0, "b"))})
	comes(t, g, up(1, v.ID, 0, 2), api.OK)
	send(t, g, "g", api.ErrBusy)
	happened(t, g)
	comes(t, g, up(2, v.ID, 0, 1), api.OK)
	happened(t, g, safe(v, 0, "a"), received(v, 0, "d"))
	send(t, g, "g", api.OK)
	send(t, g, "h", api.ErrBusy)
	happened(t, g, sent(v, "g"))
	links(t, g, 0,
		out{1, down(0, v.ID, 2, 0, 1, item(0, "c"), item(0, "d"))},
		out{2, down(0, v.ID, 1, 0, 1, item(0, "b"), item(0, "c"))})
}

// P14.1: one who is alone has all at once, as much as it likes.
func TestAlone(t *testing.T) {
	g := groupOf(t, api.Config{Nodes: 1, Beat: 1, Miss: 2, Window: 1, Ring: 1, Queue: 1}, 0)
	g.Tick()
	v := full(1)
	has(t, g, v, true, 1)
	happened(t, g, viewed(v))
	for range 3 {
		send(t, g, "a", api.OK)
		send(t, g, "", api.OK)
		happened(t, g, sent(v, "a"), received(v, 0, "a"), safe(v, 0, "a"), sent(v, ""), received(v, 0, ""), safe(v, 0, ""))
		g.Tick()
		sends(t, g, 0)
		happened(t, g)
		has(t, g, v, true, 1)
	}
}

// P14.2: the first tick of a node: its beat, to each other one; what member does; no links, as it has no view.
func TestTick(t *testing.T) {
	c := config(4)
	g := groupOf(t, c, 1)
	none := api.ViewID{}
	comes(t, g, beatOf(3, none, id(7, 2)), api.OK)
	comes(t, g, beatOf(2, none, none), api.OK)
	sends(t, g, 1)
	happened(t, g)
	has(t, g, api.View{}, false, 14)
	g.Tick()
	// the beat tells what was ahead of the proposal
	b, p := beatOf(1, none, none), propose(1, view(8, 1, 14))
	sends(t, g, 1, out{0, b}, out{2, b}, out{3, b}, out{2, p}, out{3, p})
	g.Tick()
	sends(t, g, 1, out{2, p}, out{3, p})
	comes(t, g, accept(3, id(8, 1), api.State{}), api.OK)
	sends(t, g, 1)
	g.Tick()
	b = beatOf(1, none, id(8, 1))
	sends(t, g, 1, out{0, b}, out{2, b}, out{3, b}, out{2, p})
	has(t, g, api.View{}, false, 14)
	happened(t, g)
}

// P14.2: beats are due at each Beat-th tick, and who isn't heard of any more is missed.
func TestTickMisses(t *testing.T) {
	c := config(2)
	c.Beat, c.Miss = 3, 4
	g := groupOf(t, c, 0)
	comes(t, g, beatOf(1, api.ViewID{}, api.ViewID{}), api.OK)
	g.Tick()
	v := full(2)
	sends(t, g, 0, out{1, beatOf(0, api.ViewID{}, api.ViewID{})}, out{1, propose(0, v)})
	comes(t, g, accept(1, v.ID, api.State{}), api.OK)
	sends(t, g, 0, out{1, commit(0, v)})
	happened(t, g, viewed(v))
	for range 2 {
		g.Tick()
		sends(t, g, 0, out{1, commit(0, v)}, out{1, down(0, v.ID, 0, 0, 0)})
	}
	has(t, g, v, true, 3)
	g.Tick()
	alone := view(2, 0, 1)
	has(t, g, alone, true, 1)
	sends(t, g, 0, out{1, beatOf(0, v.ID, v.ID)})
	happened(t, g, viewed(alone))
	// what comes of the view that was is late
	comes(t, g, up(1, v.ID, 0, 0, "a"), api.ErrStale)
	happened(t, g)
}

// P14.2: in an open view each tick brings what the links have to send, for the leader and for others.
func TestTickLinks(t *testing.T) {
	v := full(3)
	g := leads(t, config(3))
	g.Tick()
	sends(t, g, 0, out{1, down(0, v.ID, 0, 0, 0)}, out{2, down(0, v.ID, 0, 0, 0)})
	g.Tick()
	b := beatOf(0, v.ID, v.ID)
	sends(t, g, 0, out{1, b}, out{2, b}, out{1, down(0, v.ID, 0, 0, 0)}, out{2, down(0, v.ID, 0, 0, 0)})
	g = follows(t, config(3), 2)
	g.Tick()
	b = beatOf(2, v.ID, v.ID)
	sends(t, g, 2, out{0, b}, out{1, b}, out{0, up(2, v.ID, 0, 0)})
	g.Tick()
	sends(t, g, 2, out{0, up(2, v.ID, 0, 0)})
	// it isn't open any more: its links are still
	comes(t, g, propose(0, view(2, 0, 7)), api.OK)
	sends(t, g, 2, out{0, accept(2, id(2, 0), state(v.ID, 0))})
	send(t, g, "a", api.ErrState)
	g.Tick()
	b = beatOf(2, v.ID, id(2, 0))
	sends(t, g, 2, out{0, b}, out{1, b})
	g.Tick()
	sends(t, g, 2)
}
