package node_test

import (
	"bytes"
	"fmt"
	"slices"
	"testing"

	"folkmoot/api"
	"folkmoot/node"
	"folkmoot/total"
	"folkmoot/vsync"
)

// twin is a node, and a Group and a Total by themselves. These are told what the node was told, and Group sends what the node's Trace says that it has sent: all that the node tells must be what they tell.
type twin struct {
	t     *testing.T
	node  *node.Node
	group *vsync.Group
	total *total.Total
	sent  [][]byte
	got   []api.Item
	trace []api.Event
	out   []api.Packet // what the last call brought
}

func twinOf(t *testing.T, c api.Config, self int) *twin {
	t.Helper()
	g, e := vsync.New(c, self)
	want(t, "vsync.New", e, api.OK)
	x, e := total.New(c.Nodes, self, c.Queue)
	want(t, "total.New", e, api.OK)
	return &twin{t: t, node: nodeOf(t, c, self), group: g, total: x}
}

// bcast, tick and in are the node's calls, that answer what Group's and Total's do.
func (w *twin) bcast(m []byte) {
	w.t.Helper()
	e := w.total.Bcast(m)
	want(w.t, "Bcast", w.node.Bcast(m), e)
	if e == api.OK {
		w.sent = append(w.sent, m)
	}
	w.follow(e == api.OK)
}

func (w *twin) tick() {
	w.t.Helper()
	want(w.t, "Tick", w.node.Tick(), api.OK)
	w.group.Tick()
	w.follow(false)
}

func (w *twin) in(b []byte) {
	w.t.Helper()
	want(w.t, "In", w.node.In(b), w.group.In(b))
	w.follow(false)
}

// follow: behind a call, at which a message was accepted or not, Group and Total do what the node has done.
func (w *twin) follow(accepted bool) {
	w.t.Helper()
	l := w.node.Trace()[len(w.trace):]
	w.trace = append(w.trace, l...)
	for _, x := range l {
		if x.Kind == api.ESend {
			want(w.t, "Send", w.group.Send(x.M), api.OK)
		}
	}
	same(w.t, "Trace", l, w.group.Events())
	for _, x := range l {
		w.pass(x)
	}
	for x, e := w.total.Take(); e == api.OK; x, e = w.total.Take() {
		w.got = append(w.got, x)
	}
	w.stopped()
	w.alike()
	if len(l) > 0 || accepted {
		w.knowAlike()
	}
}

// pass: an event comes to Total; what was sent is what it had to tell then.
func (w *twin) pass(x api.Event) {
	w.t.Helper()
	switch x.Kind {
	case api.EView:
		want(w.t, "View", w.total.View(x.View), api.OK)
	case api.ESend:
		m, ok := w.total.Next()
		same(w.t, "what is sent", x.M, m)
		want(w.t, fmt.Sprint("Sent of what is ", ok), w.total.Sent(), api.OK)
	case api.ERecv:
		w.total.Recv(x.From, x.M)
	case api.ESafe:
		w.total.Safe(x.From, x.M)
	}
}

// stopped: nothing more happens, as nothing is to be sent, or Group doesn't take it.
func (w *twin) stopped() {
	w.t.Helper()
	if m, ok := w.total.Next(); ok && w.group.Send(m) == api.OK {
		w.t.Fatalf("% x is to be sent, but it isn't", m)
	}
}

func (w *twin) alike() {
	w.t.Helper()
	w.out = w.node.Out()
	if l := w.group.Out(); !slices.EqualFunc(w.out, l, samePacket) {
		w.t.Fatalf("Out = %v, want %v", w.out, l)
	}
	has(w.t, w.node, w.group.View(), w.group.Open(), w.group.Est())
}

func samePacket(a, b api.Packet) bool {
	return a.From == b.From && a.To == b.To && bytes.Equal(a.Bytes, b.Bytes)
}

// knowAlike: what can have changed only where something has happened, or a message was accepted.
func (w *twin) knowAlike() {
	w.t.Helper()
	same(w.t, "Sent", w.node.Sent(), w.sent)
	same(w.t, "Got", w.node.Got(), w.got)
	same(w.t, "Summary", w.node.Summary(), w.total.Summary())
}
