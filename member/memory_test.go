package member_test

import (
	"testing"

	"folkmoot/api"
	"folkmoot/member"
)

// roomy: a state, behind each of whose lists there is spare room, with a mark in it.
func roomy(v api.ViewID) api.State {
	m := append(make([]byte, 0, 4), 'a', 'b', '!')[:2]
	items := append(make([]api.Item, 0, 4), api.Item{From: 1, M: m}, api.Item{From: 2, M: []byte("c")}, api.Item{From: 9})[:2]
	return api.State{V: v, Floor: 1, Items: items}
}

// intact: is a roomy state as it was made?
func intact(s api.State) bool {
	if len(s.Items) != 2 || cap(s.Items) < 3 || s.Items[:3][2].From != 9 {
		return false
	}
	m := s.Items[0].M
	return string(m) == "ab" && m[:3][2] == '!' && s.Items[0].From == 1 && string(s.Items[1].M) == "c"
}

// spoil writes over all that states hold, and over their spare room.
func spoil(l []api.State) {
	l = l[:cap(l)]
	for i := range l {
		items := l[i].Items[:cap(l[i].Items)]
		for k := range items {
			m := items[k].M[:cap(items[k].M)]
			for j := range m {
				m[j] = '#'
			}
			items[k] = api.Item{From: -1}
		}
		l[i] = api.State{Floor: -1}
	}
}

// spoilAll writes over a whole answer.
func spoilAll(l []member.Out, in *member.Install) {
	for _, o := range l[:cap(l)] {
		spoil(o.F.States)
	}
	clear(l[:cap(l)])
	if in != nil {
		spoil(in.States)
		*in = member.Install{}
	}
}

// The state with which a node proposes is neither changed nor kept.
func TestTickKeepsNoState(t *testing.T) {
	m := memberOf(t, 2, 0)
	v, u := view(1, 0, 3), id(1, 1)
	st := roomy(u)
	m.Tick(3, st)
	if !intact(st) {
		t.Fatalf("Tick changed %v", st)
	}
	spoil([]api.State{st})
	comes(t, m, accept(1, v.ID, api.State{}), api.State{}, outs(to(1, commit(0, v, roomy(u)))), install(v, roomy(u)), api.OK)
	st = roomy(u)
	l, in := memberOf(t, 2, 0).Tick(1, st)
	spoilAll(l, in)
	if !intact(st) {
		t.Fatalf("the view of one shares its state: %v", st)
	}
}

// The states of acceptances are neither changed nor kept.
func TestInKeepsNoStates(t *testing.T) {
	m := memberOf(t, 3, 0)
	v, u := view(1, 0, 7), id(1, 1)
	m.Tick(7, api.State{})
	l := append(make([]api.State, 0, 2), roomy(u))
	quiet(t, m, accept(1, v.ID, l...), api.OK)
	if !intact(l[0]) {
		t.Fatalf("In changed %v", l)
	}
	spoil(l)
	f := commit(0, v, roomy(u))
	comes(t, m, accept(2, v.ID, api.State{}), api.State{}, outs(to(1, f), to(2, f)), install(v, roomy(u)), api.OK)
}

// The last acceptance's states aren't kept for the commits to come, and no answer shares memory with another one, or with what is kept.
func TestCommitsAreApart(t *testing.T) {
	m := memberOf(t, 4, 0)
	v, u, w := view(1, 0, 15), id(1, 1), id(1, 2)
	m.Tick(15, roomy(u))
	quiet(t, m, accept(1, v.ID, roomy(w)), api.OK)
	quiet(t, m, accept(3, v.ID, api.State{}), api.OK)
	last := []api.State{roomy(id(1, 3))}
	l, in, e := m.In(accept(2, v.ID, last...), api.State{})
	if len(l) != 3 || in == nil || e != api.OK {
		t.Fatalf("In = %v, %v, %d", l, in, e)
	}
	f := commit(0, v, roomy(u), roomy(w), roomy(id(1, 3)))
	if !intact(last[0]) {
		t.Fatalf("In changed %v", last)
	}
	spoil(last)
	// of three frames and a view each one is written over by itself, and the others stay
	spoilAll(l[:1:1], nil)
	if got, want := told(l[1:], in), told(outs(to(2, f), to(3, f)), install(v, f.States...)); got != want {
		t.Fatalf("%s, want %s", got, want)
	}
	spoilAll(nil, in)
	if got, want := told(l[1:], nil), told(outs(to(2, f), to(3, f)), nil); got != want {
		t.Fatalf("%s, want %s", got, want)
	}
	spoilAll(l, nil)
	for range 2 {
		l, in := m.Tick(15, api.State{})
		if got, want := told(l, in), told(outs(to(1, f), to(2, f), to(3, f)), nil); got != want {
			t.Fatalf("%s, want %s", got, want)
		}
		spoilAll(l[:2:2], nil)
		if got, want := told(l[2:], nil), told(outs(to(3, f)), nil); got != want {
			t.Fatalf("%s, want %s", got, want)
		}
		spoilAll(l, nil)
	}
}

// An acceptance that is sent doesn't share its state with what was handed in.
func TestAcceptIsApart(t *testing.T) {
	m := memberOf(t, 2, 1)
	st := roomy(id(1, 1))
	l, _, _ := m.In(propose(0, view(2, 0, 3)), st)
	if !intact(st) {
		t.Fatalf("In changed %v", st)
	}
	spoilAll(l, nil)
	if !intact(st) {
		t.Fatalf("the answer shares %v", st)
	}
	comes(t, m, propose(0, view(2, 0, 3)), st, outs(to(0, accept(1, id(2, 0), st))), nil, api.OK)
}

// The states of a view that is installed aren't those of the frame.
func TestInstallIsApart(t *testing.T) {
	m := memberOf(t, 2, 1)
	v, u := view(2, 0, 3), id(1, 1)
	m.In(propose(0, v), api.State{})
	l := append(make([]api.State, 0, 3), roomy(u), roomy(u), api.State{Floor: 5})[:2]
	_, in, _ := m.In(commit(0, v, l...), api.State{})
	if !intact(l[0]) || !intact(l[1]) || l[:3][2].Floor != 5 {
		t.Fatalf("In changed %v", l)
	}
	spoil(in.States)
	if !intact(l[0]) || !intact(l[1]) || l[:3][2].Floor != 5 {
		t.Fatalf("the view shares %v", l)
	}
	in.View = api.View{}
	has(t, m, v, v.ID, true)
}
