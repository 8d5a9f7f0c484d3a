package vsync_test

import (
	"fmt"
	"math/rand"
	"slices"
	"testing"

	"folkmoot/api"
	"folkmoot/judge"
	"folkmoot/net"
	"folkmoot/vsync"
)

// flock is nodes, a net between them, and what has happened to each node.
type flock struct {
	t      *testing.T
	r      *rand.Rand
	c      api.Config
	seed   int64
	nodes  []*vsync.Group
	net    *net.Net
	traces [][]api.Event
	count  int
	stray  bool // packets may come to nodes to whom they weren't sent
}

func flockOf(t *testing.T, seed int64, c api.Config) *flock {
	n, e := net.New(c.Nodes)
	if e != api.OK {
		t.Fatalf("net.New = %d", e)
	}
	f := &flock{t: t, r: rand.New(rand.NewSource(seed)), seed: seed, c: c, net: n, traces: make([][]api.Event, c.Nodes)}
	for i := range c.Nodes {
		f.nodes = append(f.nodes, groupOf(t, c, i))
	}
	return f
}

// anyConfig: so many nodes, that work in some way.
func anyConfig(r *rand.Rand, n int) api.Config {
	miss := 2 + r.Intn(6)
	return api.Config{Nodes: n, Beat: 1 + r.Intn(miss-1), Miss: miss, Window: 1 + r.Intn(4), Ring: 1 + r.Intn(6), Queue: 1}
}

// behind: what came of a call at a node.
func (f *flock) behind(i int) {
	for _, p := range f.nodes[i].Out() {
		f.net.Put(p)
	}
	f.traces[i] = append(f.traces[i], f.nodes[i].Events()...)
}

func (f *flock) tick(i int) {
	f.nodes[i].Tick()
	f.behind(i)
}

// say: a node sends a message that no other one is like.
func (f *flock) say(i int) api.Errno {
	f.count++
	e := f.nodes[i].Send(fmt.Appendf(nil, "%d:%d", i, f.count))
	f.behind(i)
	return e
}

func (f *flock) deliver(at int) {
	p, e := f.net.Take(at)
	if e != api.OK {
		return
	}
	to := p.To
	if f.stray && f.r.Intn(4) == 0 {
		to = f.r.Intn(len(f.nodes))
	}
	f.nodes[to].In(p.Bytes)
	f.behind(to)
}

// storm: anything happens.
func (f *flock) storm(steps int) {
	for range steps {
		i, k := f.r.Intn(len(f.nodes)), f.r.Intn(len(f.nodes))
		at := f.r.Intn(f.net.Len() + 1)
		switch x := f.r.Intn(100); {
		case x < 18:
			f.tick(i)
		case x < 30:
			f.say(i)
		case x < 32:
			f.net.Cut(i, k)
		case x < 35:
			f.net.Join(i, k)
		case x < 37:
			f.part()
		case x < 43:
			f.net.Drop(at)
		case x < 49:
			f.net.Double(at)
		case x < 52:
			f.net.Turn(at, f.r.Intn(400))
		case x < 80:
			f.deliver(0)
		default:
			f.deliver(at)
		}
	}
}

// part: the nodes fall apart into some classes, or into one.
func (f *flock) part() {
	many := 1 + f.r.Intn(3)
	class := make([]int, len(f.nodes))
	for i := range class {
		class[i] = f.r.Intn(many)
	}
	f.partBy(func(i int) int { return class[i] })
}

func (f *flock) partBy(class func(i int) int) {
	for i := range f.nodes {
		for k := range i {
			if class(i) == class(k) {
				f.net.Join(i, k)
			} else {
				f.net.Cut(i, k)
			}
		}
	}
}

// calm: as layer 20 has it: each one ticks, and then all comes.
func (f *flock) calm(ticks int) {
	for range ticks {
		for i := range f.nodes {
			f.tick(i)
		}
		for f.net.Len() > 0 {
			f.deliver(0)
		}
	}
}

func (f *flock) fatal(text string, args ...any) {
	f.t.Helper()
	f.t.Fatalf("%d: %v: %s", f.seed, f.c, fmt.Sprintf(text, args...))
}

// settled: all who hear one another are in one view, and it is open.
func (f *flock) settled() {
	f.t.Helper()
	for i, g := range f.nodes {
		set := f.net.Class(i)
		if !g.Open() || g.View().Set != set || g.Est() != set {
			f.fatal("the node %d of the class %b is in %v, open: %t", i, set, g.View(), g.Open())
		}
	}
}

// delivers: messages of all nodes come to all of their views in time, and are known to be safe; and the views stay.
func (f *flock) delivers() {
	f.t.Helper()
	views := f.views()
	many := 0
	for i := range f.nodes {
		for range f.r.Intn(2 * f.c.Ring) {
			if f.say(i) == api.OK {
				many++
			}
		}
	}
	f.calm(20 + 4*(many+f.c.Nodes))
	if !slices.Equal(views, f.views()) {
		f.fatal("views don't stay: %v, %v", views, f.views())
	}
	for i := range f.nodes {
		all, wrong := stays(i, f.traces[i])
		if wrong != "" {
			f.fatal("the node %d: %s", i, wrong)
		}
		last := all[len(all)-1]
		want := 0
		for k := range f.nodes {
			if views[k] != views[i] {
				continue
			}
			other, _ := stays(k, f.traces[k])
			want += len(other[len(other)-1].sent)
		}
		if len(last.got) != want || last.safe != want {
			f.fatal("the node %d has received %d, and knows of %d safe ones, of %d", i, len(last.got), last.safe, want)
		}
	}
}

func (f *flock) views() []api.View {
	var l []api.View
	for _, g := range f.nodes {
		l = append(l, g.View())
	}
	return l
}

// held: nothing is broken.
func (f *flock) held() {
	f.t.Helper()
	if wrong := broken(f.traces); wrong != "" {
		f.fatal("%s", wrong)
	}
	if !judge.Views(f.traces) {
		f.fatal("judge.Views is false")
	}
}

// counts: how often each kind of event has happened.
func (f *flock) counts() map[byte]int {
	n := map[byte]int{}
	for _, l := range f.traces {
		for _, e := range l {
			n[e.Kind]++
		}
	}
	return n
}

// P14.4, P4: whatever becomes of the packets, all is as judge.Views asks for; and when it is calm, views are agreed upon, and messages come to all of them.
func TestStorm(t *testing.T) {
	sum := map[byte]int{}
	for seed := range int64(300) {
		r := rand.New(rand.NewSource(-seed))
		f := flockOf(t, seed, anyConfig(r, 1+r.Intn(6)))
		for range 3 {
			f.storm(500)
			f.held()
			f.part()
			f.calm(f.c.Miss + f.c.Beat + 6)
			f.settled()
			f.held()
			f.delivers()
			f.held()
		}
		for kind, n := range f.counts() {
			sum[kind] += n
		}
	}
	for kind := api.EView; kind <= api.ESafe; kind++ {
		if sum[kind] < 10000 {
			t.Errorf("only %d events of the kind %d", sum[kind], kind)
		}
	}
}

// P14.4: packets may come to whomever they come.
func TestStrayPackets(t *testing.T) {
	for seed := range int64(200) {
		r := rand.New(rand.NewSource(-seed))
		f := flockOf(t, seed, anyConfig(r, 2+r.Intn(5)))
		f.stray = true
		for range 2 {
			f.storm(800)
			f.held()
			f.calm(5)
			f.held()
		}
		f.stray = false
		f.part()
		f.calm(f.c.Miss + f.c.Beat + 6)
		f.settled()
		f.held()
	}
}

// P14.4: in a storm in which beats are dear, so that views stay long, and messages are lost in them.
func TestStormWithinViews(t *testing.T) {
	rest := 0
	for seed := range int64(150) {
		r := rand.New(rand.NewSource(-seed))
		c := anyConfig(r, 2+r.Intn(4))
		c.Beat, c.Miss = 10, 200
		f := flockOf(t, seed, c)
		f.calm(12)
		f.settled()
		f.storm(1500)
		f.held()
		f.part()
		f.calm(f.c.Miss + f.c.Beat + 6)
		f.settled()
		f.held()
		f.delivers()
		f.held()
		rest += len(f.traces[0])
	}
	if rest < 5000 {
		t.Errorf("only %d events", rest)
	}
}

// P14.3, P14.4: as many nodes as there may be, with as little room as there may be, and as much.
func TestStormOfAll(t *testing.T) {
	for seed := range int64(6) {
		c := api.Config{Nodes: api.MaxNodes, Beat: 1, Miss: 3, Window: 1, Ring: 1, Queue: 1}
		if seed%2 == 1 {
			c.Window, c.Ring = api.MaxWindow, 40
		}
		f := flockOf(t, seed, c)
		f.storm(3000)
		f.part()
		f.calm(f.c.Miss + f.c.Beat + 6)
		f.settled()
		f.held()
		f.delivers()
		f.held()
	}
}

// P14.1, P14.3: the example: two nodes that hear one another.
func TestTwoNodes(t *testing.T) {
	f := flockOf(t, 1, config(2))
	f.calm(3)
	f.settled()
	for i := range f.nodes {
		if e := f.say(i); e != api.OK {
			t.Fatalf("Send = %d", e)
		}
	}
	f.calm(4)
	f.held()
	// each was alone at first
	a, _ := stays(0, f.traces[0])
	b, _ := stays(1, f.traces[1])
	if len(a) != 2 || len(b) != 2 || a[1].safe != 2 || b[1].safe != 2 || fmt.Sprint(a[1].got) != fmt.Sprint(b[1].got) {
		t.Errorf("%v, %v", f.traces[0], f.traces[1])
	}
}

// P14.3, P20.3: long messages of many views don't keep the nodes apart.
func TestHeavyStorm(t *testing.T) {
	long := make([]byte, api.MaxBytes/2)
	for seed := range int64(2) {
		c := api.Config{Nodes: 6, Beat: 1, Miss: 3, Window: api.MaxWindow, Ring: api.MaxRing, Queue: 1}
		f := flockOf(t, seed, c)
		f.partBy(func(i int) int { return i / 2 })
		f.calm(c.Miss + c.Beat + 6)
		f.settled()
		for i, g := range f.nodes {
			for range 2 {
				if e := g.Send(long); e != api.OK {
					t.Fatalf("Send = %d", e)
				}
			}
			f.behind(i)
		}
		// each leader's messages come, but word of that doesn't come back before all join
		f.calm(1 + int(seed))
		f.partBy(func(int) int { return 0 })
		f.calm(c.Miss + c.Beat + 6)
		f.settled()
		f.held()
		f.delivers()
		f.held()
	}
}

// P2: what happens hangs on what was told alone.
func TestSameAgain(t *testing.T) {
	for seed := range int64(20) {
		var texts [2]string
		for k := range texts {
			f := flockOf(t, seed, anyConfig(rand.New(rand.NewSource(-seed)), 5))
			f.storm(1500)
			var l []api.Packet
			for i := range f.net.Len() {
				p, _ := f.net.Peek(i)
				l = append(l, p)
			}
			texts[k] = fmt.Sprint(f.traces, l, f.views())
		}
		if texts[0] != texts[1] {
			t.Fatalf("%d: it goes otherwise the second time", seed)
		}
	}
}
