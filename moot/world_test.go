package moot_test

import (
	"bytes"
	"fmt"
	"math/rand"
	"testing"

	"folkmoot/api"
	"folkmoot/ident"
	"folkmoot/moot"
)

// world is a moot to which a script is done that nobody has written.
type world struct {
	t     *testing.T
	seed  int64
	r     *rand.Rand
	c     api.Config
	m     *moot.Moot
	count int // messages of clients
}

func worldOf(t *testing.T, seed int64, c api.Config) *world {
	t.Helper()
	return &world{t: t, seed: seed, r: rand.New(rand.NewSource(seed)), c: c, m: mootOf(t, c)}
}

// anyConfig: so many nodes, that work in some way: often as slowly, or with as little room, as there may be.
func anyConfig(seed int64, n int) api.Config {
	r := rand.New(rand.NewSource(seed))
	miss := 2 + r.Intn(8)
	beat := []int{1, miss - 1, 1 + r.Intn(miss-1)}[r.Intn(3)]
	room := func(most int) int { return []int{1, most, 1 + r.Intn(8)}[r.Intn(3)] }
	return api.Config{Nodes: n, Beat: beat, Miss: miss, Window: room(api.MaxWindow), Ring: room(api.MaxRing), Queue: room(api.MaxRing)}
}

func (w *world) fatal(text string, args ...any) {
	w.t.Helper()
	w.t.Fatalf("%d: %v: %s", w.seed, w.c, fmt.Sprintf(text, args...))
}

func (w *world) do(kind byte, i, k int) {
	w.m.Do(step(kind, i, k))
}

// any of the nodes.
func (w *world) any() int {
	return w.r.Intn(w.c.Nodes)
}

// say: a client of some node has a message, that no other one is like.
func (w *world) say() {
	w.count++
	i := w.any()
	w.m.Do(saying(i, fmt.Sprintf("%d:%d", i, w.count)))
}

// part: the nodes fall apart into so many classes at most.
func (w *world) part(many int) {
	class := make([]int, w.c.Nodes)
	for i := range class {
		class[i] = w.r.Intn(many)
		for k := range i {
			if class[i] == class[k] {
				w.do(api.SJoin, i, k)
			} else {
				w.do(api.SCut, i, k)
			}
		}
	}
}

// storm: anything happens, some of it often and some of it seldom.
func (w *world) storm(steps int) {
	often := [...]int{20, 4, 1, 4, 1, 4, 4, 3, 40, 15, 5, 1}
	most := [...]int{60, 20, 5, 8, 3, 30, 40, 10, 90, 90, 90, 2}
	sum := 0
	for i := range often {
		if w.r.Intn(3) == 0 {
			often[i] = w.r.Intn(most[i])
		}
		sum += often[i]
	}
	if sum == 0 {
		return
	}
	for range steps {
		x, k := w.r.Intn(sum), 0
		for x >= often[k] {
			x -= often[k]
			k++
		}
		w.happens(k)
	}
}

func (w *world) happens(k int) {
	size := w.m.Net().Len()
	at := w.r.Intn(size + 1)
	switch k {
	case 0:
		w.do(api.STick, w.any(), 0)
	case 1:
		w.say()
	case 2:
		w.do(api.SCut, w.any(), w.any())
	case 3:
		w.do(api.SJoin, w.any(), w.any())
	case 4:
		w.part(1 + w.r.Intn(3))
	case 5:
		w.do(api.SDrop, at, 0)
	case 6:
		w.do(api.SDouble, at, 0)
	case 7:
		w.do(api.STurn, at, w.r.Intn(400))
	case 8:
		w.do(api.SDeliver, 0, 0)
	case 9:
		w.do(api.SDeliver, at, 0)
	case 10:
		w.do(api.SDeliver, size-1, 0)
	default:
		w.do(api.SCalm, w.r.Intn(3), 0)
	}
}

// malice: for a while frames of some kinds to some nodes are lost, or held back; all others come at once.
func (w *world) malice(ticks int) {
	kinds, nodes, lose := w.r.Intn(256), w.r.Intn(1<<w.c.Nodes), w.r.Intn(2) == 0
	for range ticks {
		if w.r.Intn(12) == 0 {
			w.say()
		}
		if w.r.Intn(40) == 0 {
			w.part(1 + w.r.Intn(2))
		}
		w.do(api.STick, w.any(), 0)
		for at := 0; at < w.m.Net().Len(); {
			p, _ := w.m.Net().Peek(at)
			kind := api.SDeliver
			if kinds>>p.Bytes[0]&1 == 1 && nodes>>p.To&1 == 1 {
				kind = api.SDrop
			}
			if kind == api.SDrop && !lose {
				at++
			} else {
				w.do(kind, at, 0)
			}
		}
	}
}

// fill: as many are under way as may be.
func (w *world) fill() {
	for w.m.Net().Len() > 0 && w.m.Net().Len() < api.MaxBag {
		w.do(api.SDouble, w.r.Intn(w.m.Net().Len()), 0)
	}
}

// calm: so many ticks, however many they are.
func (w *world) calm(ticks int) {
	w.t.Helper()
	for ticks > 0 {
		n := min(ticks, api.MaxDelay)
		do(w.t, w.m, calm(n))
		ticks -= n
	}
}

// ordered: as P20.2 asks, it is one order, and one group; as P6 asks, nothing that was accepted is dropped.
func (w *world) ordered() []api.Item {
	w.t.Helper()
	order, ok := w.m.Total()
	if !ok {
		w.fatal("Total is false")
	}
	if !w.m.Views() {
		w.fatal("Views is false")
	}
	for i := range w.c.Nodes {
		w.kept(i)
	}
	return order
}

// kept: what a node has accepted waits as long as it has no view, and is among what it knows from then on.
func (w *world) kept(i int) {
	w.t.Helper()
	n := w.m.Node(i)
	sent := n.Sent()
	if n.View().Set == 0 && len(sent) <= w.c.Queue {
		return
	}
	for _, x := range n.Summary().Con {
		if x.L.P == i && len(sent) > 0 && bytes.Equal(x.M, sent[0]) {
			sent = sent[1:]
		}
	}
	if len(sent) > 0 {
		w.fatal("of what %d has accepted it doesn't know %q", i, sent)
	}
}

// settles: as P20.3 asks, the nodes of a class have one open view, that is the class, in time.
func (w *world) settles() {
	w.t.Helper()
	w.calm(moot.Settle(w.c))
	w.settled()
}

func (w *world) settled() {
	w.t.Helper()
	for i := range w.c.Nodes {
		set, n := w.m.Net().Class(i), w.m.Node(i)
		for _, k := range ident.List(set) {
			if v := w.m.Node(k).View(); v != n.View() || v.Set != set || !n.Open() {
				w.fatal("of the class %b %d is in %v, open: %t, and %d in %v", set, i, n.View(), n.Open(), k, v)
			}
		}
	}
}

// views: which view each node of a class has.
func (w *world) views() []api.View {
	l := make([]api.View, w.c.Nodes)
	for i := range l {
		if w.m.Net().Class(i) != 0 {
			l[i] = w.m.Node(i).View()
		}
	}
	return l
}

// stays: as P20.3 asks, whatever messages there are, as long as it is calm those views stay.
func (w *world) stays(messages int) {
	w.t.Helper()
	was := fmt.Sprint(w.views())
	for range messages {
		w.say()
		w.calm(w.r.Intn(3))
		w.settled()
	}
	if is := fmt.Sprint(w.views()); is != was {
		w.fatal("the views are %s, not %s", is, was)
	}
}

// rests: as P20.4 asks, in a class that has most of the nodes all have delivered the same in time, and nothing is left. How much that is.
func (w *world) rests() int {
	w.t.Helper()
	before := 0
	messages := 0
	for i := range w.c.Nodes {
		messages += len(w.m.Node(i).Sent())
		if ident.Most(w.m.Net().Class(i), w.c.Nodes) {
			before = max(before, len(w.m.Node(i).Got()))
		}
	}
	was := fmt.Sprint(w.views())
	w.calm(moot.Rest(w.c, messages))
	w.settled()
	if is := fmt.Sprint(w.views()); is != was {
		w.fatal("the views are %s, not %s", is, was)
	}
	order := w.ordered()
	for i := range w.c.Nodes {
		if ident.Most(w.m.Net().Class(i), w.c.Nodes) {
			w.delivered(i, order, before)
		}
	}
	return before
}

// delivered: a node of such a class has delivered all that there is, of its own messages, too.
func (w *world) delivered(i int, order []api.Item, before int) {
	w.t.Helper()
	l := w.m.Node(i).Got()
	if len(l) != len(order) || len(l) < before {
		w.fatal("%d has delivered %d of %d, and there were %d", i, len(l), len(order), before)
	}
	sent := w.m.Node(i).Sent()
	for _, x := range l {
		if x.From == i {
			if !bytes.Equal(x.M, sent[0]) {
				w.fatal("%d has delivered %q ahead of %q of its own", i, x.M, sent[0])
			}
			sent = sent[1:]
		}
	}
	if len(sent) > 0 {
		w.fatal("%d hasn't delivered %q of its own", i, sent)
	}
}
