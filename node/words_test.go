package node_test

import (
	"fmt"
	"strings"
	"testing"

	"folkmoot/api"
	"folkmoot/content"
	"folkmoot/frame"
	"folkmoot/node"
)

// config: so many nodes, that miss one another late, with room for four messages that wait for a view.
func config(n int) api.Config {
	return api.Config{Nodes: n, Beat: 2, Miss: 50, Window: 2, Ring: 3, Queue: 4}
}

func nodeOf(t *testing.T, c api.Config, self int) *node.Node {
	t.Helper()
	n, e := node.New(c, self)
	if n == nil || e != api.OK {
		t.Fatalf("New(%v, %d) = %v, %d", c, self, n, e)
	}
	return n
}

func want(t *testing.T, what string, got, want api.Errno) {
	t.Helper()
	if got != want {
		t.Fatalf("%s = %d, want %d", what, got, want)
	}
}

// same: are both the same, as far as a text tells?
func same(t *testing.T, what string, got, want any) {
	t.Helper()
	if a, b := fmt.Sprint(got), fmt.Sprint(want); a != b {
		t.Fatalf("%s = %s, want %s", what, a, b)
	}
}

func bcast(t *testing.T, n *node.Node, m string, e api.Errno) {
	t.Helper()
	want(t, "Bcast of "+m, n.Bcast([]byte(m)), e)
}

// comes: a frame of the node 0 comes.
func comes(t *testing.T, n *node.Node, f api.Frame) {
	t.Helper()
	want(t, fmt.Sprint("In of ", f), n.In(bytesOf(t, f)), api.OK)
}

func bytesOf(t *testing.T, f api.Frame) []byte {
	t.Helper()
	b, e := frame.Encode(f)
	want(t, fmt.Sprint("Encode of ", f), e, api.OK)
	return b
}

// view: a view that the node 0 has proposed.
func view(n uint64, set uint16) api.View {
	return api.View{ID: api.ViewID{N: n}, Set: set}
}

func label(v api.View, seq uint64, p int) api.Label {
	return api.Label{V: v.ID, Seq: seq, P: p}
}

func entry(l api.Label, m string) api.Entry {
	return api.Entry{L: l, M: []byte(m)}
}

func one(t *testing.T, x api.Entry) string {
	t.Helper()
	b, e := content.EncodeOne(x)
	want(t, "EncodeOne", e, api.OK)
	return string(b)
}

func all(t *testing.T, s api.Summary) string {
	t.Helper()
	b, e := content.EncodeAll(s)
	want(t, "EncodeAll", e, api.OK)
	return string(b)
}

func viewed(v api.View) api.Event {
	return api.Event{Kind: api.EView, View: v}
}

func event(kind byte, v api.View, from int, m string) api.Event {
	return api.Event{Kind: kind, View: v, From: from, M: []byte(m)}
}

// alone: what happens in a view of a node alone when it sends something.
func alone(v api.View, self int, m string) []api.Event {
	return []api.Event{event(api.ESend, v, 0, m), event(api.ERecv, v, self, m), event(api.ESafe, v, self, m)}
}

// got: just these were delivered, a word each: from whom, and what.
func got(t *testing.T, n *node.Node, words string) {
	t.Helper()
	var l []string
	for _, x := range n.Got() {
		l = append(l, fmt.Sprint(x.From)+string(x.M))
	}
	same(t, "Got", strings.Join(l, " "), words)
}

// sent: just these were accepted, a word each.
func sent(t *testing.T, n *node.Node, words string) {
	t.Helper()
	var l []string
	for _, m := range n.Sent() {
		l = append(l, string(m))
	}
	same(t, "Sent", strings.Join(l, " "), words)
}

// trace: just these events have happened, in this order.
func trace(t *testing.T, n *node.Node, want ...api.Event) {
	t.Helper()
	same(t, "Trace", n.Trace(), want)
}

// behind: just these events have happened behind the first ones.
func behind(t *testing.T, n *node.Node, first int, want ...api.Event) {
	t.Helper()
	l := n.Trace()
	same(t, "Trace behind the first", l[min(first, len(l)):], want)
}

func knows(t *testing.T, n *node.Node, s api.Summary) {
	t.Helper()
	same(t, "Summary", n.Summary(), s)
}

// ordered: what a node tells that knows these entries, which are in that order.
func ordered(next int, high api.ViewID, l ...api.Entry) api.Summary {
	return api.Summary{Con: l, Ord: content.Labels(l), Next: next, High: high}
}

func has(t *testing.T, n *node.Node, v api.View, open bool, est uint16) {
	t.Helper()
	if n.View() != v || n.Open() != open || n.Est() != est {
		t.Fatalf("View %v, Open %t, Est %b, want %v, %t, %b", n.View(), n.Open(), n.Est(), v, open, est)
	}
}

// frames: what the node has to send, once.
func frames(t *testing.T, n *node.Node) []api.Frame {
	t.Helper()
	var l []api.Frame
	for _, p := range n.Out() {
		f, e := frame.Decode(p.Bytes)
		want(t, "Decode", e, api.OK)
		l = append(l, f)
	}
	if l := n.Out(); len(l) != 0 {
		t.Fatalf("Out = %v, a second time", l)
	}
	return l
}
