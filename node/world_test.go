package node_test

import (
	"bytes"
	"fmt"
	"math/rand"
	"slices"
	"testing"

	"folkmoot/api"
	"folkmoot/ident"
	"folkmoot/judge"
	"folkmoot/net"
	"folkmoot/node"
)

// caller is what is told to a node.
type caller interface {
	bcast(m []byte)
	tick()
	in(b []byte)
	taken() []api.Packet // what it has to send
}

// lone is a node without a twin, for worlds in which there is too much to be told twice.
type lone struct{ node *node.Node }

func (l lone) bcast(m []byte)      { l.node.Bcast(m) }
func (l lone) tick()               { l.node.Tick() }
func (l lone) in(b []byte)         { l.node.In(b) }
func (l lone) taken() []api.Packet { return l.node.Out() }

func (w *twin) taken() []api.Packet {
	l := w.out
	w.out = nil
	return l
}

// world is nodes, and a net between them.
type world struct {
	t     *testing.T
	r     *rand.Rand
	seed  int64
	c     api.Config
	nodes []*node.Node
	calls []caller
	net   *net.Net
	count int // messages of clients
}

func worldOf(t *testing.T, seed int64, c api.Config, twins bool) *world {
	t.Helper()
	n, e := net.New(c.Nodes)
	want(t, "net.New", e, api.OK)
	w := &world{t: t, r: rand.New(rand.NewSource(seed)), seed: seed, c: c, net: n}
	for i := range c.Nodes {
		if twins {
			x := twinOf(t, c, i)
			w.nodes, w.calls = append(w.nodes, x.node), append(w.calls, x)
		} else {
			x := nodeOf(t, c, i)
			w.nodes, w.calls = append(w.nodes, x), append(w.calls, lone{x})
		}
	}
	return w
}

// anyConfig: so many nodes, that work in some way.
func anyConfig(seed int64, n int) api.Config {
	r := rand.New(rand.NewSource(seed))
	miss := 2 + r.Intn(6)
	return api.Config{Nodes: n, Beat: 1 + r.Intn(miss-1), Miss: miss, Window: 1 + r.Intn(4), Ring: 1 + r.Intn(6), Queue: 1 + r.Intn(5)}
}

func (w *world) fatal(text string, args ...any) {
	w.t.Helper()
	w.t.Fatalf("%d: %v: %s", w.seed, w.c, fmt.Sprintf(text, args...))
}

// send: what a node has to send is under way.
func (w *world) send(i int) {
	for _, p := range w.calls[i].taken() {
		w.net.Put(p)
	}
}

func (w *world) tick(i int) {
	w.t.Helper()
	w.calls[i].tick()
	w.send(i)
}

// say: a client of a node has a message, that no other one is like.
func (w *world) say(i int) {
	w.t.Helper()
	w.count++
	w.calls[i].bcast(fmt.Appendf(nil, "%d:%d", i, w.count))
	w.send(i)
}

func (w *world) deliver(at int) {
	w.t.Helper()
	if p, e := w.net.Take(at); e == api.OK {
		w.calls[p.To].in(p.Bytes)
		w.send(p.To)
	}
}

// storm: anything happens.
func (w *world) storm(steps int) {
	w.t.Helper()
	for range steps {
		i, k := w.r.Intn(w.c.Nodes), w.r.Intn(w.c.Nodes)
		at := w.r.Intn(w.net.Len() + 1)
		switch x := w.r.Intn(100); {
		case x < 20:
			w.tick(i)
		case x < 24:
			w.say(i)
		case x < 26:
			w.net.Cut(i, k)
		case x < 30:
			w.net.Join(i, k)
		case x < 32:
			w.part()
		case x < 36:
			w.net.Drop(at)
		case x < 40:
			w.net.Double(at)
		case x < 43:
			w.net.Turn(at, w.r.Intn(400))
		case x < 85:
			w.deliver(0)
		default:
			w.deliver(at)
		}
	}
}

// part: the nodes fall apart into some classes, or into one.
func (w *world) part() {
	class := make([]int, w.c.Nodes)
	many := 1 + w.r.Intn(3)
	for i := range class {
		class[i] = w.r.Intn(many)
		for k := range i {
			if class[i] == class[k] {
				w.net.Join(i, k)
			} else {
				w.net.Cut(i, k)
			}
		}
	}
}

// calm: each one ticks, and then all comes, so many times.
func (w *world) calm(ticks int) {
	w.t.Helper()
	for range ticks {
		for i := range w.nodes {
			w.tick(i)
		}
		for w.net.Len() > 0 {
			w.deliver(0)
		}
	}
}

// settles: as P20.3 asks, all who hear one another are in one open view in time.
func (w *world) settles() {
	w.t.Helper()
	w.calm(w.c.Miss + w.c.Beat + 6)
	for i, n := range w.nodes {
		if set := w.net.Class(i); n.View().Set != set || !n.Open() || n.Est() != set {
			w.fatal("the node %d of the class %b is in %v, open: %t", i, set, n.View(), n.Open())
		}
	}
}

// rests: as P20.4 asks, all messages of a class that has most of the nodes are delivered by all of it in time.
func (w *world) rests() {
	w.t.Helper()
	messages := 0
	for _, n := range w.nodes {
		messages += len(n.Sent())
	}
	w.calm(20 + 4*(messages+w.c.Nodes))
	whole := w.held()
	for i, n := range w.nodes {
		set := w.net.Class(i)
		if n.View().Set != set {
			w.fatal("the node %d of the class %b is in %v", i, set, n.View())
		}
		if !ident.Most(set, w.c.Nodes) {
			continue
		}
		if len(n.Got()) != len(whole) {
			w.fatal("the node %d of %b has delivered %d of %d", i, set, len(n.Got()), len(whole))
		}
		for _, k := range ident.List(set) {
			if l := from(k, whole); len(l) != len(w.nodes[k].Sent()) {
				w.fatal("%d of the %d messages of the node %d are delivered", len(l), len(w.nodes[k].Sent()), k)
			}
		}
	}
}

// held: as P3 and P18.3 ask, what nodes deliver are beginnings of one order, which is answered, with each node's messages as it accepted them, and all that was accepted is kept.
func (w *world) held() []api.Item {
	w.t.Helper()
	var whole []api.Item
	for i, n := range w.nodes {
		l := n.Got()
		both := min(len(l), len(whole))
		if !slices.EqualFunc(l[:both], whole[:both], sameItem) {
			w.fatal("the node %d delivers %v, another one %v", i, l, whole)
		}
		if len(l) > len(whole) {
			whole = l
		}
		w.kept(i)
	}
	for i, n := range w.nodes {
		l, accepted := from(i, whole), n.Sent()
		if len(l) > len(accepted) || !slices.EqualFunc(l, accepted[:len(l)], bytes.Equal) {
			w.fatal("the node %d has accepted %q, of which %q are delivered", i, accepted, l)
		}
	}
	w.judged(whole)
	return whole
}

// judged: as P3 and P4 ask, that is the one order, and the events of all nodes are those of one group.
func (w *world) judged(whole []api.Item) {
	w.t.Helper()
	var accepted [][][]byte
	var delivered [][]api.Item
	var traces [][]api.Event
	for _, n := range w.nodes {
		accepted, delivered, traces = append(accepted, n.Sent()), append(delivered, n.Got()), append(traces, n.Trace())
	}
	if l, ok := judge.Total(accepted, delivered); !ok || !slices.EqualFunc(l, whole, sameItem) {
		w.fatal("judge.Total is %v, %t, of the order %v", l, ok, whole)
	}
	if !judge.Views(traces) {
		w.fatal("judge.Views is false")
	}
}

// kept: what a node has accepted waits as long as it has no view, and else is among what it knows.
func (w *world) kept(i int) {
	w.t.Helper()
	n := w.nodes[i]
	var own [][]byte
	for _, x := range n.Summary().Con {
		if x.L.P == i {
			own = append(own, x.M)
		}
	}
	accepted := n.Sent()
	if n.View().Set == 0 {
		if len(own) > 0 || len(accepted) > w.c.Queue {
			w.fatal("without a view the node %d knows %q of %q", i, own, accepted)
		}
	} else if !slices.EqualFunc(own, accepted, bytes.Equal) {
		w.fatal("the node %d knows %q of the %q that it has accepted", i, own, accepted)
	}
	if x, ok := w.calls[i].(*twin); ok && len(own)+x.total.Waiting() != len(accepted) {
		w.fatal("the node %d has accepted %d, knows %d, and %d wait", i, len(accepted), len(own), x.total.Waiting())
	}
}

func sameItem(a, b api.Item) bool {
	return a.From == b.From && bytes.Equal(a.M, b.M)
}

// from: a node's messages of an order.
func from(node int, l []api.Item) [][]byte {
	var own [][]byte
	for _, x := range l {
		if x.From == node {
			own = append(own, x.M)
		}
	}
	return own
}

// P18.1 to P18.3, P3, P5, P6: whatever becomes of the packets, a node does what its Group and its Total do together, and no more; all deliver one order; and when it is calm, all is delivered.
func TestStorm(t *testing.T) {
	early, late := 0, 0
	for seed := range int64(60) {
		w := worldOf(t, seed, anyConfig(-seed, 1+int(seed)%5), true)
		for range 2 {
			w.storm(400)
			early += len(w.held())
			w.part()
			w.settles()
			w.held()
			w.rests()
		}
		late += len(w.held())
	}
	if early < 300 || late < 600 {
		t.Errorf("only %d messages were delivered in storms, and %d in all", early, late)
	}
}

// P3, P5, P6: the same for longer, with more nodes.
func TestLongStorm(t *testing.T) {
	for seed := range int64(60) {
		w := worldOf(t, seed, anyConfig(-seed, 2+int(seed)%6), false)
		for range 4 {
			w.storm(1000)
			w.held()
			w.part()
			w.settles()
			w.held()
			w.rests()
		}
	}
}

// P3, P5, P7: as many nodes as there may be, as many messages as they may accept, and as little room, or as much.
func TestAll(t *testing.T) {
	for _, c := range []api.Config{
		{Nodes: api.MaxNodes, Beat: 1, Miss: 3, Window: 1, Ring: 1, Queue: 1},
		{Nodes: api.MaxNodes, Beat: 1, Miss: 3, Window: api.MaxWindow, Ring: api.MaxRing, Queue: api.MaxRing},
	} {
		w := worldOf(t, 1, c, false)
		w.settles()
		for range api.MaxOwn {
			for i := range w.nodes {
				w.say(i)
			}
		}
		w.part()
		w.settles()
		w.part()
		w.settles()
		w.held()
		for i := range w.nodes {
			for k := range i {
				w.net.Join(i, k)
			}
		}
		w.settles()
		w.rests()
		if l := w.held(); len(l) != api.MaxNodes*api.MaxOwn {
			t.Fatalf("%d are delivered", len(l))
		}
	}
}

// P2: what a node does hangs on what it was told, and on nothing else.
func TestSameAgain(t *testing.T) {
	for seed := range int64(10) {
		var texts [2]string
		for k := range texts {
			w := worldOf(t, seed, anyConfig(-seed, 4), false)
			w.storm(1200)
			for i, n := range w.nodes {
				texts[k] += fmt.Sprint(i, n.Trace(), n.Got(), n.Sent(), n.Summary())
			}
			for i := range w.net.Len() {
				p, _ := w.net.Peek(i)
				texts[k] += fmt.Sprint(p)
			}
		}
		if texts[0] != texts[1] {
			t.Fatalf("%d: it goes otherwise the second time", seed)
		}
	}
}
