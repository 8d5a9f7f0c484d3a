package member_test

import (
	"fmt"
	"math/rand"
	"slices"
	"testing"

	"folkmoot/api"
	"folkmoot/beat"
	"folkmoot/cut"
	"folkmoot/ident"
	"folkmoot/member"
)

// one is a node of a group: its member, of whom it hears, how many messages of its view it has, and what became of its views.
type one struct {
	m     *member.Member
	b     *beat.Beat
	count int
	moves int
}

// flock is nodes, frames that are under way between them, and what is known of views.
type flock struct {
	t      *testing.T
	c      api.Config
	r      *rand.Rand
	nodes  []*one
	class  []int // who hears whom: those of one class do
	bag    []member.Out
	views  map[api.ViewID]string
	counts map[[2]api.ViewID]int
}

func flockOf(t *testing.T, r *rand.Rand, n int) *flock {
	miss := 2 + r.Intn(6)
	c := api.Config{Nodes: n, Beat: 1 + r.Intn(miss-1), Miss: miss, Window: 1, Ring: 1, Queue: 1}
	g := &flock{c: c, t: t, r: r, class: make([]int, n), views: map[api.ViewID]string{}, counts: map[[2]api.ViewID]int{}}
	for i := range n {
		b, e := beat.New(c, i)
		if e != api.OK {
			t.Fatalf("New = %d", e)
		}
		g.nodes = append(g.nodes, &one{m: memberOf(t, n, i), b: b})
	}
	return g
}

// state: the messages of a view are the same for all; a node has some of the first of them.
func (h *one) state() api.State {
	s := api.State{V: h.m.Cur().ID}
	for i := range h.count {
		s.Items = append(s.Items, api.Item{M: []byte{byte(i)}})
	}
	return s
}

// more: only while a node is open it gets messages.
func (h *one) more(n int) {
	if h.m.Open() {
		h.count += n
	}
}

// takes: what came of a call at a node; before: the view that it had.
func (g *flock) takes(i int, before api.View, l []member.Out, in *member.Install) {
	g.bag = append(g.bag, l...)
	if in == nil {
		return
	}
	h := g.nodes[i]
	v := in.View
	if v != h.m.Cur() || !h.m.Open() || v.Set&(1<<i) == 0 || !ident.Above(v.ID, before.ID) {
		g.t.Fatalf("the node %d goes from %v to %v", i, before, v)
	}
	text := fmt.Sprint(v, in.States)
	if was, ok := g.views[v.ID]; ok && was != text {
		g.t.Fatalf("one view, and two: %s, %s", was, text)
	}
	g.views[v.ID] = text
	rest, e := cut.Rest(in.States, before.ID, h.count)
	if e != api.OK {
		g.t.Fatalf("the node %d goes from %v to %v, but lacks what others had: %d", i, before, v, e)
	}
	count := h.count + len(rest)
	move := [2]api.ViewID{before.ID, v.ID}
	if was, ok := g.counts[move]; ok && was != count {
		g.t.Fatalf("from %v to %v one had %d, one %d", before, v, was, count)
	}
	g.counts[move] = count
	h.count = 0
	h.moves++
}

func (g *flock) tick(i int) {
	h := g.nodes[i]
	if h.b.Tick() {
		for k := range g.nodes {
			if k != i {
				g.bag = append(g.bag, to(k, lastBeat(i, h.m)))
			}
		}
	}
	before := h.m.Cur()
	l, in := h.m.Tick(h.b.Est(), h.state())
	g.takes(i, before, l, in)
}

func lastBeat(from int, m *member.Member) api.Frame { return beatOf(from, m.Cur().ID, m.Prom()) }

// deliver: the frame at a place comes, if those two hear one another; it stays under way, too, if it is doubled.
func (g *flock) deliver(at int, double bool) {
	o := g.bag[at]
	if !double {
		g.bag = slices.Delete(g.bag, at, at+1)
	}
	if g.class[o.To] != g.class[o.F.From] {
		return
	}
	h := g.nodes[o.To]
	if o.F.Kind == api.FBeat {
		h.b.Heard(o.F.From)
	}
	before := h.m.Cur()
	l, in, _ := h.m.In(o.F, h.state())
	g.takes(o.To, before, l, in)
}

// storm: anything happens.
func (g *flock) storm(steps int) {
	for range steps {
		switch x := g.r.Intn(100); {
		case x < 15:
			g.tick(g.r.Intn(len(g.nodes)))
		case x < 30:
			g.nodes[g.r.Intn(len(g.nodes))].more(g.r.Intn(3))
		case x < 32:
			g.part()
		case len(g.bag) == 0:
		case x < 40:
			at := g.r.Intn(len(g.bag))
			g.bag = slices.Delete(g.bag, at, at+1)
		case x < 50:
			g.deliver(g.r.Intn(len(g.bag)), true)
		case x < 75:
			g.deliver(0, false)
		default:
			g.deliver(g.r.Intn(len(g.bag)), false)
		}
	}
}

// part: the nodes fall apart into some classes, or into one.
func (g *flock) part() {
	many := 1 + g.r.Intn(3)
	for i := range g.class {
		g.class[i] = g.r.Intn(many)
	}
}

// calm: as layer 20 has it: each one ticks, and then all comes.
func (g *flock) calm(ticks int) {
	for range ticks {
		for i := range g.nodes {
			g.tick(i)
		}
		for len(g.bag) > 0 {
			g.deliver(0, false)
		}
	}
}

// settled: are all who hear one another in one view?
func (g *flock) settled(seed int64) {
	for i, h := range g.nodes {
		var set uint16
		for k := range g.nodes {
			if g.class[k] == g.class[i] {
				set |= 1 << k
			}
		}
		if !h.m.Open() || h.m.Cur().Set != set {
			g.t.Fatalf("%d: the node %d of the class %b is in %v, open: %t", seed, i, set, h.m.Cur(), h.m.Open())
		}
		for k, other := range g.nodes {
			if g.class[k] == g.class[i] && other.m.Cur() != h.m.Cur() {
				g.t.Fatalf("%d: the nodes %d and %d are in %v and %v", seed, i, k, h.m.Cur(), other.m.Cur())
			}
		}
	}
}

func (g *flock) moves() int {
	n := 0
	for _, h := range g.nodes {
		n += h.moves
	}
	return n
}

// P13.2, P13.3: whatever becomes of the frames, views of one number are one view, their numbers rise, and those who go on together had the same; when it is calm all who hear one another are in one view, in time, and stay there.
func TestGroup(t *testing.T) {
	moves := 0
	for seed := range int64(300) {
		r := rand.New(rand.NewSource(seed))
		g := flockOf(t, r, 1+r.Intn(6))
		for range 3 {
			g.storm(400)
			g.part()
			g.calm(g.c.Miss + g.c.Beat + 6)
			g.settled(seed)
			before := g.moves()
			g.calm(2 * g.c.Miss)
			if g.moves() != before {
				t.Fatalf("%d: it doesn't stay", seed)
			}
		}
		moves += g.moves()
	}
	if moves < 10000 {
		t.Errorf("only %d views were installed", moves)
	}
}

// P13.2, P13.3: as many nodes as there may be.
func TestGroupOfAll(t *testing.T) {
	for seed := range int64(10) {
		g := flockOf(t, rand.New(rand.NewSource(seed)), api.MaxNodes)
		g.storm(3000)
		g.part()
		g.calm(g.c.Miss + g.c.Beat + 6)
		g.settled(seed)
	}
}
