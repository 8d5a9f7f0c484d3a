package judge_test

import (
	"bytes"
	"math/rand"
	"slices"
	"testing"

	"folkmoot/api"
	"folkmoot/judge"
)

// The words of P19.2 one by one, as slowly as may be.

// of: the events of a kind that name a view.
func of(l trace, kind byte, v api.View) []api.Item {
	var x []api.Item
	for _, e := range l {
		if e.Kind == kind && e.View == v {
			x = append(x, api.Item{From: e.From, M: e.M})
		}
	}
	return x
}

func viewsOf(l trace) []api.View {
	var x []api.View
	for _, e := range l {
		if e.Kind == api.EView {
			x = append(x, e.View)
		}
	}
	return x
}

func greater(a, b api.ViewID) bool {
	return a.N > b.N || a.N == b.N && a.P > b.P
}

// rightNode: a node's events by themselves.
func rightNode(node int, l trace) bool {
	views := viewsOf(l)
	for i, v := range views {
		if v.ID.N == 0 || node > 15 || v.Set&(1<<node) == 0 || i > 0 && !greater(v.ID, views[i-1].ID) {
			return false
		}
	}
	for i, e := range l {
		if e.Kind < api.EView || e.Kind > api.ESafe {
			return false
		}
		before := viewsOf(l[:i])
		if e.Kind != api.EView && (len(before) == 0 || before[len(before)-1] != e.View) {
			return false
		}
		// each ESafe behind its own ERecv
		had, known := of(l[:i+1], api.ERecv, e.View), of(l[:i+1], api.ESafe, e.View)
		if !isBeginning(known, had) {
			return false
		}
	}
	return true
}

// rightTwo: a node's events and another one's, or its own, in a view of the first.
func rightTwo(a, b trace, node int, v api.View) bool {
	for _, w := range viewsOf(b) {
		if w.ID == v.ID && w.Set != v.Set {
			return false
		}
	}
	x, y := of(a, api.ERecv, v), of(b, api.ERecv, v)
	if !isBeginning(x, y) && !isBeginning(y, x) {
		return false
	}
	var got, told []api.Item
	for _, i := range x {
		if i.From == node {
			got = append(got, i)
		}
	}
	for _, i := range of(b, api.ESend, v) {
		told = append(told, api.Item{From: node, M: i.M})
	}
	if !isBeginning(got, told) {
		return false
	}
	k := len(of(a, api.ESafe, v))
	if k > 0 && v.Set&(1<<node) != 0 && (!slices.Contains(viewsOf(b), v) || len(y) < k) {
		return false
	}
	p, q := behind(viewsOf(a), v), behind(viewsOf(b), v)
	return p.N == 0 || p != q || len(x) == len(y)
}

// behind: the number of the view behind v.
func behind(l []api.View, v api.View) api.ViewID {
	i := slices.Index(l, v)
	if i < 0 || i+1 == len(l) {
		return api.ViewID{}
	}
	return l[i+1].ID
}

func rightViews(traces []trace) bool {
	for node, l := range traces {
		if !rightNode(node, l) {
			return false
		}
	}
	all := append(slices.Clone(traces), make([]trace, 20)...)
	for _, a := range traces {
		for _, e := range a {
			if e.Kind == api.ERecv && (e.From < 0 || e.From >= len(traces)) {
				return false
			}
		}
		for _, v := range viewsOf(a) {
			for node, b := range all {
				if !rightTwo(a, b, node, v) {
					return false
				}
			}
		}
	}
	return true
}

// group makes the events of a group: views with rising numbers, in which those who install them send, receive one order's beginnings, and know of what is safe.
type group struct {
	r      *rand.Rand
	traces []trace
}

func groupOf(r *rand.Rand) []trace {
	g := &group{r: r, traces: make([]trace, 1+r.Intn(4))}
	var views []api.View
	n := uint64(1)
	for range 1 + r.Intn(4) {
		views = append(views, view(n, r.Intn(len(g.traces)), uint16(1+r.Intn(1<<len(g.traces)-1))))
		n += 1 + uint64(r.Intn(2))
	}
	in := make([]uint16, len(views)+1)
	for i, v := range views {
		in[i] = v.Set
		if r.Intn(3) == 0 {
			in[i] &= uint16(r.Intn(1 << len(g.traces)))
		}
	}
	for i, v := range views {
		g.passes(v, in[i], in[i+1:])
	}
	return g.traces
}

// passes: what happens in a view of those in it, who go on into the later ones.
func (g *group) passes(v api.View, in uint16, later []uint16) {
	var order []api.Item
	for node := range g.traces {
		if in&(1<<node) != 0 {
			for range g.r.Intn(3) {
				order = append(order, api.Item{From: node, M: []byte{byte('a' + g.r.Intn(2))}})
			}
		}
	}
	g.r.Shuffle(len(order), func(i, k int) { order[i], order[k] = order[k], order[i] })
	counts := make([]int, len(later)+1) // by the view into which a node goes on
	for i := range counts {
		counts[i] = g.r.Intn(len(order) + 1)
		if g.r.Intn(2) == 0 {
			counts[i] = len(order)
		}
	}
	had := make([]int, len(g.traces))
	safe := len(order)
	for node := range g.traces {
		next := slices.IndexFunc(later, func(s uint16) bool { return s&(1<<node) != 0 })
		if in&(1<<node) != 0 {
			had[node] = counts[next+1]
		}
		if v.Set&(1<<node) != 0 {
			safe = min(safe, had[node])
		}
	}
	for node := range g.traces {
		if in&(1<<node) != 0 {
			g.stays(v, node, order, had[node], g.r.Intn(safe+1))
		}
	}
}

// stays: a node's events in a view, put together as they may be.
func (g *group) stays(v api.View, node int, order []api.Item, had, safe int) {
	var own []api.Item
	for _, x := range order {
		if x.From == node {
			own = append(own, x)
		}
	}
	l := append(g.traces[node], viewed(v))
	for sends, gets, known := 0, 0, 0; sends < len(own) || gets < had || known < safe; {
		switch g.r.Intn(3) {
		case 0:
			if sends < len(own) {
				l = append(l, sent(v, string(own[sends].M)))
				sends++
			}
		case 1:
			if gets < had {
				l = append(l, received(v, order[gets].From, string(order[gets].M)))
				gets++
			}
		case 2:
			if known < min(safe, gets) {
				l = append(l, safeOf(v, order[known]))
				known++
			}
		}
	}
	g.traces[node] = l
}

func safeOf(v api.View, x api.Item) api.Event {
	return safe(v, x.From, string(x.M))
}

// edited: the same events, but one that is another, or is elsewhere, or isn't there, or is there once more.
func edited(r *rand.Rand, traces []trace) []trace {
	l := slices.Clone(traces)
	node := r.Intn(len(l))
	if len(l[node]) == 0 {
		l[node] = append(trace{}, l[r.Intn(len(l))]...)
		return l
	}
	x := slices.Clone(l[node])
	i, k := r.Intn(len(x)), r.Intn(len(x))
	e := x[i]
	switch r.Intn(9) {
	case 0:
		x = slices.Delete(x, i, i+1)
	case 1:
		x = slices.Insert(x, k, e)
	case 2:
		x[i], x[k] = x[k], e
	case 3:
		x[i].Kind = byte(r.Intn(6))
	case 4:
		x[i].From = r.Intn(len(l)+2) - 1
	case 5:
		x[i].M = bytes.Repeat([]byte{'a'}, r.Intn(3))
	case 6:
		x[i].View = x[k].View
	case 7:
		v := &x[i].View
		*v = view(v.ID.N+uint64(r.Intn(3))-1, v.ID.P, v.Set^uint16(r.Intn(4)))
	case 8:
		x = x[:i]
	}
	l[node] = x
	return l
}

// P19.2: held against the document's words.
func TestViewsByAModel(t *testing.T) {
	r := rand.New(rand.NewSource(192))
	counts := map[bool]int{}
	for range 40000 {
		l := groupOf(r)
		if !judge.Views(l) || !rightViews(l) {
			t.Fatalf("Views is %t, the model %t: %v", judge.Views(l), rightViews(l), l)
		}
		for range 1 + r.Intn(3) {
			l = edited(r, l)
			want := rightViews(l)
			if judge.Views(l) != want {
				t.Fatalf("Views is %t: %v", !want, l)
			}
			counts[want]++
		}
	}
	if counts[true] < 10000 || counts[false] < 10000 {
		t.Errorf("edited ones: %v", counts)
	}
}
