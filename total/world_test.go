package total_test

import (
	"fmt"
	"math/rand"
	"slices"
	"testing"

	"folkmoot/api"
	"folkmoot/ident"
	"folkmoot/total"
)

// A world is nodes, and views as layer 14 promises them: messages of a view come to all of it in one order, as far as they come, and one is safe when all of the view have received it. Nothing more is kept to than that: views come as they like, and nodes leave them with whatever they have.
type world struct {
	t        *testing.T
	r        *rand.Rand
	seed     int64
	nodes    []*total.Total
	views    map[api.ViewID]*course
	at       []api.ViewID // by node: its view
	last     uint64       // the greatest counter of a view
	accepted [][]string
	got      [][]string
	counts   [][]int // by node and sender: how many it has delivered
	whole    []string
}

// course is what happens in a view: what was sent and isn't ordered, by its sender, the order, and how many of it each node has received, and knows to be safe.
type course struct {
	view api.View
	sent [][][]byte
	log  []api.Item
	got  []int
	safe []int
}

func worldOf(t *testing.T, seed int64, n int) *world {
	w := &world{t: t, r: rand.New(rand.NewSource(seed)), seed: seed, views: map[api.ViewID]*course{}, at: make([]api.ViewID, n), accepted: make([][]string, n), got: make([][]string, n)}
	for i := range n {
		w.nodes = append(w.nodes, nodeOf(t, n, i, 1+w.r.Intn(4)))
		w.counts = append(w.counts, make([]int, n))
	}
	return w
}

func (w *world) fatal(text string, args ...any) {
	w.t.Helper()
	w.t.Fatalf("%d: %s", w.seed, fmt.Sprintf(text, args...))
}

func (w *world) ok(what string, e api.Errno) {
	w.t.Helper()
	if e != api.OK {
		w.fatal("%s = %d", what, e)
	}
}

// say: a client of a node has a message, that no other one is like.
func (w *world) say(i int) {
	m := fmt.Sprintf("%d:%d", i, len(w.accepted[i]))
	if e := w.nodes[i].Bcast([]byte(m)); e == api.OK {
		w.accepted[i] = append(w.accepted[i], m)
	} else if e != api.ErrBusy || len(w.accepted[i]) < api.MaxOwn && w.nodes[i].Waiting() == 0 {
		w.fatal("Bcast = %d", e)
	}
}

// propose: there is a view, into which its nodes may go.
func (w *world) propose(set uint16) *course {
	w.last += uint64(w.r.Intn(2))
	v := api.View{ID: id(max(w.last, 1), w.r.Intn(len(w.nodes))), Set: set}
	w.last = v.ID.N
	if w.views[v.ID] != nil {
		return w.views[v.ID]
	}
	n := len(w.nodes)
	w.views[v.ID] = &course{view: v, sent: make([][][]byte, n), got: make([]int, n), safe: make([]int, n)}
	return w.views[v.ID]
}

// enter: a node goes into a view, if it may.
func (w *world) enter(i int, v *course) {
	if ident.Has(v.view.Set, i) && ident.Above(v.view.ID, w.at[i]) {
		w.ok("View", w.nodes[i].View(v.view))
		w.at[i] = v.view.ID
	}
}

// someView: one of the last views.
func (w *world) someView() *course {
	for range 20 {
		v := w.views[id(w.last-uint64(w.r.Intn(3)), w.r.Intn(len(w.nodes)))]
		if v != nil {
			return v
		}
	}
	return nil
}

func (w *world) send(i int) bool {
	v := w.views[w.at[i]]
	m, ok := w.nodes[i].Next()
	if !ok {
		return false
	}
	w.ok("Sent", w.nodes[i].Sent())
	v.sent[i] = append(v.sent[i], m)
	return true
}

// order: a message that somebody has sent is put in order; its sender may have left the view.
func (w *world) order(v *course, i int) bool {
	if v == nil || len(v.sent[i]) == 0 {
		return false
	}
	v.log = append(v.log, api.Item{From: i, M: v.sent[i][0]})
	v.sent[i] = v.sent[i][1:]
	return true
}

func (w *world) recv(i int) bool {
	v := w.views[w.at[i]]
	if v == nil || v.got[i] == len(v.log) {
		return false
	}
	x := v.log[v.got[i]]
	v.got[i]++
	w.ok("Recv", w.nodes[i].Recv(x.From, x.M))
	return true
}

func (w *world) safe(i int) bool {
	v := w.views[w.at[i]]
	if v == nil {
		return false
	}
	for _, k := range ident.List(v.view.Set) {
		if v.got[k] <= v.safe[i] {
			return false
		}
	}
	x := v.log[v.safe[i]]
	v.safe[i]++
	w.ok("Safe", w.nodes[i].Safe(x.From, x.M))
	return true
}

// take: all that is to be delivered at a node is; it must go on in the one order of all.
func (w *world) take(i int) {
	w.t.Helper()
	for x, e := w.nodes[i].Take(); e == api.OK; x, e = w.nodes[i].Take() {
		at := len(w.got[i])
		w.got[i] = append(w.got[i], string(x.M))
		k := w.counts[i][x.From]
		w.counts[i][x.From]++
		if k >= len(w.accepted[x.From]) || w.accepted[x.From][k] != string(x.M) {
			w.fatal("the node %d delivers %s as the message %d of the node %d", i, x.M, k, x.From)
		}
		if at == len(w.whole) {
			w.whole = append(w.whole, string(x.M))
		}
		if w.whole[at] != string(x.M) {
			w.fatal("the node %d delivers %s, where %s is in order", i, x.M, w.whole[at])
		}
	}
}

// kept: what was accepted waits, or is known.
func (w *world) kept(i int) {
	w.t.Helper()
	own := 0
	for _, x := range w.nodes[i].Summary().Con {
		if x.L.P == i {
			own++
		}
	}
	if own+w.nodes[i].Waiting() != len(w.accepted[i]) {
		w.fatal("the node %d has accepted %d, but %d wait, and %d are known", i, len(w.accepted[i]), w.nodes[i].Waiting(), own)
	}
}

// storm: anything happens that may happen.
func (w *world) storm(steps int) {
	for range steps {
		i := w.r.Intn(len(w.nodes))
		switch x := w.r.Intn(100); {
		case x < 6:
			w.say(i)
		case x < 8:
			w.enter(i, w.propose(ident.With(uint16(w.r.Intn(1<<len(w.nodes))), i)))
		case x < 16:
			if v := w.someView(); v != nil {
				w.enter(i, v)
			}
		case x < 30:
			w.send(i)
		case x < 50:
			w.order(w.views[w.at[w.r.Intn(len(w.nodes))]], i)
		case x < 72:
			w.recv(i)
		case x < 94:
			w.safe(i)
		default:
			w.take(i)
			w.kept(i)
		}
	}
}

// calm: these nodes go into one view, and all comes there.
func (w *world) calm(set uint16) {
	w.last++
	v := w.propose(set)
	for _, i := range ident.List(set) {
		w.enter(i, v)
	}
	for busy := true; busy; {
		busy = false
		for _, i := range ident.List(set) {
			busy = w.send(i) || busy
			busy = w.order(v, i) || busy
			busy = w.recv(i) || busy
			busy = w.safe(i) || busy
		}
	}
	for _, i := range ident.List(set) {
		w.take(i)
		w.kept(i)
	}
}

// delivered: all nodes of a primary view have delivered the same, and all that they have accepted.
func (w *world) delivered(set uint16) {
	w.t.Helper()
	nodes := ident.List(set)
	for _, i := range nodes {
		if !slices.Equal(w.got[i], w.whole) {
			w.fatal("the node %d has delivered %v of %v", i, w.got[i], w.whole)
		}
		for _, k := range nodes {
			if w.counts[i][k] != len(w.accepted[k]) {
				w.fatal("the node %d has delivered %d of the %d messages of the node %d", i, w.counts[i][k], len(w.accepted[k]), k)
			}
		}
	}
}

func anySet(r *rand.Rand, n int) uint16 {
	return uint16(1 + r.Intn(1<<n-1))
}

// P17.1 to P17.4, P3: whichever views come, and however far nodes come in them, all deliver beginnings of one order, and a primary view that stays brings all.
func TestOneOrder(t *testing.T) {
	early, late := 0, 0
	for seed := range int64(150) {
		n := 1 + int(seed)%6
		w := worldOf(t, seed, n)
		for range 4 {
			before := len(w.whole)
			w.storm(600)
			early += len(w.whole) - before
			set := anySet(w.r, n)
			w.calm(set)
			if ident.Most(set, n) {
				w.delivered(set)
			}
		}
		w.calm(1<<n - 1)
		w.delivered(1<<n - 1)
		late += len(w.whole)
	}
	if early < 1000 || late < 10000 {
		t.Errorf("only %d messages were delivered in storms, and %d in all", early, late)
	}
}

// P17.4: those who have less than most deliver nothing new, but what others had confirmed.
func TestParted(t *testing.T) {
	w := worldOf(t, 1, 5)
	w.calm(0b11111)
	for i := range w.nodes {
		w.say(i)
	}
	w.calm(0b11000)
	if len(w.whole) != 0 {
		t.Fatalf("two of five deliver %v", w.whole)
	}
	w.calm(0b00111)
	if len(w.whole) != 3 || len(w.got[4]) != 0 {
		t.Fatalf("three of five deliver %v, the node 4 %v", w.whole, w.got[4])
	}
	w.calm(0b10001)
	if len(w.got[4]) != 3 || len(w.whole) != 3 {
		t.Fatalf("the node 4 has heard of the three, and delivers %v of %v", w.got[4], w.whole)
	}
	w.calm(0b11010)
	w.delivered(0b11010)
	if len(w.whole) != 5 {
		t.Fatalf("three of five deliver %v", w.whole)
	}
}

// P17.1 to P17.4: as many nodes as there may be, and as many messages.
func TestAll(t *testing.T) {
	w := worldOf(t, 1, api.MaxNodes)
	for range 4 {
		for range api.MaxOwn / 4 {
			for i := range w.nodes {
				w.say(i)
			}
		}
		w.storm(500)
		w.calm(0x3ff)
		w.delivered(0x3ff)
	}
	for w.say(0); len(w.accepted[0]) < api.MaxOwn; w.say(0) {
	}
	w.calm(0xffff)
	w.delivered(0xffff)
}
