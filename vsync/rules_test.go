package vsync_test

import (
	"fmt"
	"testing"

	"folkmoot/api"
	"folkmoot/ident"
	"folkmoot/judge"
)

// stay is a node's time in a view: what it sent, received, and knew to be safe there, and the view behind it.
type stay struct {
	view  api.View
	sent  []string
	got   []api.Item
	safe  int
	next  api.ViewID
	moved bool
}

// stays: a node's events by its views, and what is wrong with them by themselves.
func stays(node int, l []api.Event) ([]*stay, string) {
	var all []*stay
	for i, e := range l {
		if e.Kind == api.EView {
			v := e.View
			if v.ID.N == 0 || !ident.Has(v.Set, node) {
				return nil, fmt.Sprint(i, ": a view that isn't one")
			}
			if len(all) > 0 {
				last := all[len(all)-1]
				if !ident.Above(v.ID, last.view.ID) {
					return nil, fmt.Sprint(i, ": a view that isn't later")
				}
				last.next, last.moved = v.ID, true
			}
			all = append(all, &stay{view: v})
			continue
		}
		if len(all) == 0 || e.View != all[len(all)-1].view {
			return nil, fmt.Sprint(i, ": out of its view")
		}
		s := all[len(all)-1]
		switch e.Kind {
		case api.ESend:
			s.sent = append(s.sent, string(e.M))
		case api.ERecv:
			s.got = append(s.got, api.Item{From: e.From, M: e.M})
		case api.ESafe:
			if s.safe >= len(s.got) || s.got[s.safe].From != e.From || string(s.got[s.safe].M) != string(e.M) {
				return nil, fmt.Sprint(i, ": safe, but not received in that order")
			}
			s.safe++
		default:
			return nil, fmt.Sprint(i, ": no kind")
		}
	}
	return all, ""
}

// broken: what isn't so of the events of all nodes that P19.2 asks for; empty, if all is.
func broken(traces [][]api.Event) string {
	by := map[api.ViewID]map[int]*stay{}
	for node, l := range traces {
		all, wrong := stays(node, l)
		if wrong != "" {
			return fmt.Sprintf("the node %d, event %s", node, wrong)
		}
		for _, s := range all {
			if by[s.view.ID] == nil {
				by[s.view.ID] = map[int]*stay{}
			}
			by[s.view.ID][node] = s
		}
	}
	for v, nodes := range by {
		if wrong := brokenView(nodes); wrong != "" {
			return fmt.Sprintf("the view %v: %s", v, wrong)
		}
	}
	return ""
}

// brokenView: what is wrong in a view, of those who were in it.
func brokenView(nodes map[int]*stay) string {
	for i, a := range nodes {
		for k, b := range nodes {
			if a.view.Set != b.view.Set {
				return fmt.Sprintf("the nodes %d and %d have unlike sets", i, k)
			}
			for j := range min(len(a.got), len(b.got)) {
				if a.got[j].From != b.got[j].From || string(a.got[j].M) != string(b.got[j].M) {
					return fmt.Sprintf("the nodes %d and %d receive unlike messages at %d", i, k, j)
				}
			}
			if a.moved && b.moved && a.next == b.next && len(a.got) != len(b.got) {
				return fmt.Sprintf("the nodes %d and %d go on together with %d and %d", i, k, len(a.got), len(b.got))
			}
		}
		for _, k := range ident.List(a.view.Set) {
			if b := nodes[k]; a.safe > 0 && (b == nil || len(b.got) < a.safe) {
				return fmt.Sprintf("the node %d knows of %d safe ones, but the node %d hasn't them", i, a.safe, k)
			}
		}
		counts := map[int]int{}
		for _, x := range a.got {
			b := nodes[x.From]
			if b == nil || counts[x.From] >= len(b.sent) || b.sent[counts[x.From]] != string(x.M) {
				return fmt.Sprintf("the node %d receives what the node %d hasn't sent then", i, x.From)
			}
			counts[x.From]++
		}
	}
	return ""
}

// The rules find what is broken, so that it tells something when they don't; and judge.Views finds it, too.
func TestRules(t *testing.T) {
	v, w := view(1, 0, 3), view(2, 0, 3)
	a := []api.Event{viewed(v), sent(v, "a"), received(v, 0, "a"), safe(v, 0, "a"), viewed(w)}
	b := []api.Event{viewed(v), received(v, 0, "a"), viewed(w)}
	if s := broken([][]api.Event{a, b}); s != "" || !judge.Views([][]api.Event{a, b}) {
		t.Errorf("nothing is broken, but: %s", s)
	}
	for i, l := range [][][]api.Event{
		{a, {viewed(v), viewed(w)}},
		{a, {viewed(v), received(v, 1, "a"), viewed(w)}},
		{a, {viewed(v), received(v, 0, "b"), viewed(w)}},
		{a, {viewed(w)}},
		{a, {received(v, 0, "a"), viewed(v), viewed(w)}},
		{a, {viewed(v), received(v, 0, "a"), viewed(view(2, 0, 2))}},
		{a, {viewed(w), viewed(v), received(v, 0, "a")}},
		{a, {viewed(v), received(v, 0, "a"), received(v, 0, "a"), viewed(w)}},
		{a, {viewed(v), received(v, 0, "a"), {Kind: 5, View: v}, viewed(w)}},
		{a, {viewed(v), safe(v, 0, "a"), received(v, 0, "a"), viewed(w)}},
		{a, {viewed(view(1, 0, 1)), viewed(w)}},
		{a[:2], {viewed(v), received(v, 0, "a"), safe(v, 0, "a")}},
		{{}, {viewed(v), received(v, 0, "a")}},
	} {
		if broken(l) == "" || judge.Views(l) {
			t.Errorf("%d: nothing is found", i)
		}
	}
}
