package member_test

import (
	"math"
	"testing"

	"folkmoot/api"
	"folkmoot/member"
)

// oneOfEach: a frame of each kind from a node, that would do something if it came from the right one.
func oneOfEach(from int) []api.Frame {
	v := view(9, from, math.MaxUint16)
	return []api.Frame{
		beatOf(from, v.ID, v.ID),
		propose(from, v),
		accept(from, id(1, 0), api.State{}),
		refuse(from, id(1, 0), v.ID),
		commit(from, v),
		{Kind: api.FUp, From: from, ID: v.ID},
		{Kind: api.FDown, From: from, ID: v.ID},
		{From: from},
		{Kind: 8, From: from},
	}
}

// P13.3: a frame is from another node, whatever else is wrong with it; else it does nothing.
func TestInFromNoOtherNode(t *testing.T) {
	for _, n := range []int{1, 3, api.MaxNodes} {
		m := memberOf(t, n, 0)
		set := uint16(1<<n - 1)
		m.Tick(set, api.State{})
		cur := m.Cur()
		for _, from := range []int{math.MinInt, -65536, -1, 0, n, n + 1, api.MaxNodes, api.MaxNodes + 1, 64, 65537, math.MaxInt} {
			for _, f := range oneOfEach(from) {
				quiet(t, m, f, api.ErrArg)
				has(t, m, cur, id(1, 0), n == 1)
			}
		}
		if l, in := m.Tick(set, api.State{}); len(l) != n-1 || in != nil {
			t.Fatalf("%d nodes: Tick = %v, %v", n, l, in)
		}
		if n > 1 {
			nextCounter(t, m, 0, 2)
		}
	}
}

// P13.3: there are five kinds.
func TestInOfOtherKinds(t *testing.T) {
	m := memberOf(t, 2, 0)
	for kind := range 256 {
		if k := byte(kind); k < api.FBeat || k > api.FCommit {
			quiet(t, m, api.Frame{Kind: k, From: 1, ID: id(3, 1), Set: 3, Cur: id(4, 1), Prom: id(5, 1)}, api.ErrForm)
		}
	}
	has(t, m, api.View{}, api.ViewID{}, false)
	nextCounter(t, m, 0, 1)
}

// P13.3: the counters that beats tell are heard of.
func TestInBeatCounts(t *testing.T) {
	for _, c := range []struct {
		l    []api.Frame
		want uint64
	}{
		{[]api.Frame{beatOf(1, api.ViewID{}, api.ViewID{})}, 1},
		{[]api.Frame{beatOf(1, id(4, 1), id(2, 1))}, 5},
		{[]api.Frame{beatOf(1, id(2, 1), id(4, 1))}, 5},
		{[]api.Frame{beatOf(1, id(7, 1), id(7, 1)), beatOf(1, id(2, 1), id(3, 1))}, 8},
		{[]api.Frame{beatOf(1, id(2, 1), id(3, 1)), beatOf(2, id(6, 0), id(1, 1))}, 7},
		{[]api.Frame{beatOf(2, id(1, 0), id(1<<63, 15))}, 1<<63 + 1},
	} {
		m := memberOf(t, 3, 0)
		for _, f := range c.l {
			comes(t, m, f, state(id(1, 0), 0, "a"), nil, nil, api.OK)
			has(t, m, api.View{}, api.ViewID{}, false)
		}
		nextCounter(t, m, 0, c.want)
	}
}

// P13.3: a proposal is accepted with the state that the node has; again, too, with the state that it has then.
func TestInProposeIsAccepted(t *testing.T) {
	for _, st := range []api.State{{}, state(id(1, 2), 3), state(id(1, 2), 3, "d", "e")} {
		m := memberOf(t, 3, 1)
		v := view(4, 0, 7)
		comes(t, m, propose(0, v), st, outs(to(0, accept(1, v.ID, st))), nil, api.OK)
		has(t, m, api.View{}, v.ID, false)
		other := state(id(2, 2), 0, "x")
		comes(t, m, propose(0, v), other, outs(to(0, accept(1, v.ID, other))), nil, api.OK)
		has(t, m, api.View{}, v.ID, false)
		nextCounter(t, m, 1, 5)
	}
}

// P13.3: the one whose number is greater goes first; those below prom are refused.
func TestInProposeByNumber(t *testing.T) {
	for _, c := range []struct {
		first, second api.ViewID
		taken         bool
	}{
		{id(1, 0), id(2, 0), true},
		{id(1, 2), id(2, 0), true},
		{id(2, 0), id(2, 2), true},
		{id(2, 2), id(2, 0), false},
		{id(2, 0), id(1, 2), false},
		{id(2, 0), id(1, 0), false},
		{id(math.MaxUint64, 0), id(1, 2), false},
		{id(1, 2), id(math.MaxUint64, 0), true},
	} {
		m := memberOf(t, 3, 1)
		comes(t, m, propose(c.first.P, api.View{ID: c.first, Set: 7}), api.State{},
			outs(to(c.first.P, accept(1, c.first, api.State{}))), nil, api.OK)
		f := propose(c.second.P, api.View{ID: c.second, Set: 7})
		if c.taken {
			comes(t, m, f, api.State{}, outs(to(c.second.P, accept(1, c.second, api.State{}))), nil, api.OK)
			has(t, m, api.View{}, c.second, false)
			continue
		}
		comes(t, m, f, api.State{}, outs(to(c.second.P, refuse(1, c.second, c.first))), nil, api.ErrStale)
		has(t, m, api.View{}, c.first, false)
	}
}

// P13.3: one who has proposed something greater refuses; what is greater goes ahead of one's own.
func TestInProposeBesideOnesOwn(t *testing.T) {
	m := memberOf(t, 3, 1)
	m.Tick(6, api.State{})
	comes(t, m, propose(0, view(1, 0, 7)), api.State{}, outs(to(0, refuse(1, id(1, 0), id(1, 1)))), nil, api.ErrStale)
	has(t, m, api.View{}, id(1, 1), false)
	comes(t, m, propose(2, view(1, 2, 6)), api.State{}, outs(to(2, accept(1, id(1, 2), api.State{}))), nil, api.OK)
	has(t, m, api.View{}, id(1, 2), false)
	quiet(t, m, accept(2, id(1, 1), api.State{}), api.ErrStale)
}

// P13.3: the view that the node has isn't accepted once more.
func TestInProposeOfTheOwnView(t *testing.T) {
	m := memberOf(t, 3, 1)
	v := view(3, 0, 3)
	m.In(propose(0, v), api.State{})
	comes(t, m, commit(0, v), api.State{}, nil, install(v), api.OK)
	for _, set := range []uint16{3, 7} {
		comes(t, m, propose(0, view(3, 0, set)), api.State{}, outs(to(0, refuse(1, v.ID, v.ID))), nil, api.ErrStale)
		has(t, m, v, v.ID, true)
	}
	// a later one is; and then that one again, as the node isn't in it yet
	w := view(4, 0, 7)
	for range 2 {
		comes(t, m, propose(0, w), api.State{}, outs(to(0, accept(1, w.ID, api.State{}))), nil, api.OK)
		has(t, m, v, w.ID, false)
	}
	comes(t, m, propose(0, v), api.State{}, outs(to(0, refuse(1, v.ID, w.ID))), nil, api.ErrStale)
}

// P13.3: none's number isn't above none's.
func TestInProposeOfNone(t *testing.T) {
	m := memberOf(t, 2, 1)
	comes(t, m, propose(0, view(0, 0, 3)), api.State{}, outs(to(0, refuse(1, api.ViewID{}, api.ViewID{}))), nil, api.ErrStale)
	quiet(t, m, commit(0, view(0, 0, 3)), api.ErrStale)
	has(t, m, api.View{}, api.ViewID{}, false)
}

// P13.1, P13.3: a number whose N is 0 is none's, so that a node isn't open by it.
func TestInCommitOfNoNumber(t *testing.T) {
	m := memberOf(t, 2, 0)
	v := view(0, 1, 3)
	comes(t, m, propose(1, v), api.State{}, outs(to(1, accept(0, v.ID, api.State{}))), nil, api.OK)
	comes(t, m, commit(1, v), api.State{}, nil, install(v), api.OK)
	has(t, m, v, v.ID, false)
	ticks(t, m, 3, api.State{}, outs(to(1, propose(0, view(1, 0, 3)))), nil)
}

// P13.3: a proposal that isn't of the form does nothing, and its counter isn't heard of.
func TestInProposeForm(t *testing.T) {
	for _, f := range []api.Frame{
		propose(0, view(8, 1, 7)),
		propose(0, view(8, 2, 7)),
		propose(0, view(8, -1, 7)),
		propose(0, view(8, 16, 7)),
		propose(0, view(8, math.MaxInt, 7)),
		propose(2, view(8, 0, 7)),
		propose(0, view(8, 0, 0)),
		propose(0, view(8, 0, 1)),
		propose(0, view(8, 0, 2)),
		propose(0, view(8, 0, 6)),
		propose(0, view(8, 0, 5)),
		propose(2, view(8, 2, 3)),
		propose(0, view(8, 0, 8|3)),
		propose(0, view(8, 0, 1<<15|7)),
		propose(0, view(8, 0, 0xffff)),
	} {
		m := memberOf(t, 3, 1)
		comes(t, m, f, state(id(1, 0), 0, "a"), nil, nil, api.ErrForm)
		has(t, m, api.View{}, api.ViewID{}, false)
		nextCounter(t, m, 1, 1)
	}
}

// P13.3: all states are joined, in the order in which they came: of those of one view the longest, of these the first.
func TestInAcceptJoinsStates(t *testing.T) {
	u, w := id(1, 1), id(1, 2)
	v := view(1, 0, 15)
	for _, c := range []struct {
		own  api.State
		l    [3]api.State // in the order of their coming: those of the nodes 3, 1, 2
		want []api.State
	}{
		{api.State{}, [3]api.State{}, nil},
		{state(u, 0, "a"), [3]api.State{}, []api.State{state(u, 0, "a")}},
		{state(u, 0, "a"), [3]api.State{state(u, 0, "a", "b"), state(u, 0), {}}, []api.State{state(u, 0, "a", "b")}},
		{state(u, 1, "b"), [3]api.State{state(u, 0, "a", "b"), {}, {}}, []api.State{state(u, 1, "b")}},
		{api.State{}, [3]api.State{state(u, 2), state(u, 1, "b"), state(u, 0, "a", "b")}, []api.State{state(u, 2)}},
		{api.State{}, [3]api.State{state(u, 0, "a", "b"), state(u, 1, "b"), state(u, 2)}, []api.State{state(u, 0, "a", "b")}},
		{state(w, 0, "x"), [3]api.State{state(u, 0, "a"), state(w, 5), {}}, []api.State{state(u, 0, "a"), state(w, 5)}},
		{state(id(0, 3), 9), [3]api.State{state(id(1, 0), 0), {}, {}}, []api.State{state(id(1, 0), 0)}},
	} {
		m := memberOf(t, 4, 0)
		m.Tick(15, c.own)
		quiet(t, m, accept(3, v.ID, c.l[0]), api.OK)
		quiet(t, m, accept(1, v.ID, c.l[1]), api.OK)
		has(t, m, api.View{}, v.ID, false)
		f := commit(0, v, c.want...)
		comes(t, m, accept(2, v.ID, c.l[2]), state(w, 7, "not this one"), outs(to(1, f), to(2, f), to(3, f)), install(v, c.want...), api.OK)
		has(t, m, v, v.ID, true)
		ticks(t, m, 15, api.State{}, outs(to(1, f), to(2, f), to(3, f)), nil)
	}
}

// P13.3: an acceptance that isn't awaited changes nothing.
func TestInAcceptStale(t *testing.T) {
	v := view(2, 1, 14)
	begin := func() *member.Member {
		m := memberOf(t, 5, 1)
		quiet(t, m, beatOf(2, id(1, 2), api.ViewID{}), api.OK)
		m.Tick(14, state(id(1, 1), 0, "a"))
		quiet(t, m, accept(3, v.ID, state(id(1, 1), 0)), api.OK)
		return m
	}
	s := state(id(1, 1), 0, "x", "y", "z")
	for _, f := range []api.Frame{
		accept(3, v.ID, s),                // has accepted it
		accept(0, v.ID, s),                // isn't of its set
		accept(4, v.ID, s),                // isn't either
		accept(2, id(1, 1), s),            // another number
		accept(2, id(3, 1), s),            // another number
		accept(2, id(2, 2), s),            // another number
		accept(2, id(2, 0), s),            // another number
		accept(2, api.ViewID{}, s),        // none's
		accept(2, v.ID),                   // no state
		accept(2, v.ID, s, s),             // two
		accept(2, v.ID, api.State{}, s),   // two
		accept(2, v.ID, s, s, s, s, s, s), // many
	} {
		m := begin()
		quiet(t, m, f, api.ErrStale)
		has(t, m, api.View{}, v.ID, false)
		ticks(t, m, 14, api.State{}, outs(to(2, propose(1, v))), nil)
		want := commit(1, v, state(id(1, 1), 0, "a"))
		comes(t, m, accept(2, v.ID, api.State{}), api.State{}, outs(to(2, want), to(3, want)), install(v, want.States...), api.OK)
		// it is agreed upon by now
		for _, i := range []int{0, 2, 3, 4} {
			quiet(t, m, accept(i, v.ID, s), api.ErrStale)
		}
		has(t, m, v, v.ID, true)
		ticks(t, m, 14, api.State{}, outs(to(2, want), to(3, want)), nil)
	}
	quiet(t, memberOf(t, 3, 0), accept(1, api.ViewID{}, s), api.ErrStale)
	quiet(t, memberOf(t, 3, 0), accept(1, id(1, 0), s), api.ErrStale)
}

// P13.3: a state that isn't right is none the less one.
func TestInAcceptTakesAnyState(t *testing.T) {
	m := memberOf(t, 2, 0)
	v := view(1, 0, 3)
	s := api.State{V: id(1, 77), Floor: -5, Items: []api.Item{{From: -1}}}
	m.Tick(3, api.State{V: id(1, 77), Floor: math.MinInt})
	comes(t, m, accept(1, v.ID, s), api.State{}, outs(to(1, commit(0, v, s))), install(v, s), api.OK)
}

// P13.3: a proposal is given up, if the one who refuses it has accepted one that is above it, whoever that is.
func TestInRefuse(t *testing.T) {
	v := view(3, 0, 3)
	for _, c := range []struct {
		f    api.Frame
		gone bool
		next uint64
	}{
		{refuse(1, v.ID, id(3, 1)), true, 4},
		{refuse(1, v.ID, id(4, 0)), true, 5},
		{refuse(2, v.ID, id(9, 1)), true, 10},
		{refuse(1, v.ID, v.ID), false, 4},
		{refuse(1, v.ID, id(2, 1)), false, 4},
		{refuse(1, v.ID, api.ViewID{}), false, 4},
		{refuse(1, id(2, 0), id(6, 1)), false, 7},
		{refuse(1, id(3, 1), id(6, 1)), false, 7},
		{refuse(1, id(4, 0), id(6, 1)), false, 7},
		{refuse(1, api.ViewID{}, id(6, 1)), false, 7},
	} {
		m := memberOf(t, 3, 0)
		quiet(t, m, beatOf(1, id(2, 1), api.ViewID{}), api.OK)
		m.Tick(3, api.State{})
		comes(t, m, c.f, state(id(1, 0), 0, "a"), nil, nil, api.OK)
		has(t, m, api.View{}, v.ID, false)
		if c.gone {
			quiet(t, m, accept(1, v.ID, api.State{}), api.ErrStale)
			ticks(t, m, 3, api.State{}, outs(to(1, propose(0, view(c.next, 0, 3)))), nil)
			continue
		}
		ticks(t, m, 3, api.State{}, outs(to(1, propose(0, v))), nil)
		comes(t, m, accept(1, v.ID, api.State{}), api.State{}, outs(to(1, commit(0, v))), install(v), api.OK)
		nextCounter(t, m, 0, c.next)
	}
}

// P13.3: what is agreed upon isn't given up; the counter is heard of.
func TestInRefuseOfWhatIsAgreedUpon(t *testing.T) {
	m := inView(t, 2, 0, 3)
	v := view(1, 0, 3)
	quiet(t, m, refuse(1, v.ID, id(5, 1)), api.OK)
	has(t, m, v, v.ID, true)
	ticks(t, m, 3, api.State{}, outs(to(1, commit(0, v))), nil)
	nextCounter(t, m, 0, 6)
}

// P13.3: who has no proposal hears of the counter.
func TestInRefuseOfNothing(t *testing.T) {
	m := memberOf(t, 2, 1)
	quiet(t, m, refuse(0, api.ViewID{}, id(5, 0)), api.OK)
	quiet(t, m, refuse(0, id(9, 1), id(3, 0)), api.OK)
	has(t, m, api.View{}, api.ViewID{}, false)
	nextCounter(t, m, 1, 6)
}

// P13.3: a view is installed with the States that came with it, as they are.
func TestInCommit(t *testing.T) {
	v := view(2, 0, 7)
	l := []api.State{state(id(1, 2), 0, "a"), state(id(1, 1), 4), state(id(1, 1), 9), {}}
	for _, states := range [][]api.State{nil, {}, l[:1], l} {
		m := memberOf(t, 3, 1)
		m.In(propose(0, v), api.State{})
		comes(t, m, commit(0, v, states...), state(id(1, 0), 0, "x"), nil, install(v, states...), api.OK)
		has(t, m, v, v.ID, true)
		quiet(t, m, commit(0, v, states...), api.ErrStale)
		has(t, m, v, v.ID, true)
	}
}

// P13.3: a view that the node hasn't accepted last, that it has, or in which it isn't, isn't installed.
func TestInCommitStale(t *testing.T) {
	v := view(2, 0, 7)
	for _, f := range []api.Frame{
		commit(0, view(1, 0, 7)),
		commit(0, view(3, 0, 7)),
		commit(2, view(2, 2, 7)),
		commit(0, view(2, 1, 7)),
		commit(0, view(0, 0, 7)),
		commit(0, view(2, 0, 5)),
		commit(0, view(2, 0, 0)),
		commit(0, view(2, 0, 0xfffd)),
		commit(2, v),
	} {
		m := memberOf(t, 3, 1)
		m.In(propose(0, v), api.State{})
		comes(t, m, f, state(id(1, 0), 0, "a"), nil, nil, api.ErrStale)
		has(t, m, api.View{}, v.ID, false)
		comes(t, m, commit(0, v), api.State{}, nil, install(v), api.OK)
	}
	m := memberOf(t, 3, 1)
	for _, f := range []api.Frame{commit(0, v), commit(0, view(0, 0, 7)), commit(2, view(1, 2, 7))} {
		quiet(t, m, f, api.ErrStale)
		has(t, m, api.View{}, api.ViewID{}, false)
	}
	nextCounter(t, m, 1, 1)
}

// P13.3: the own proposal isn't installed by what others say.
func TestInCommitOfTheOwnProposal(t *testing.T) {
	m := memberOf(t, 3, 1)
	m.Tick(6, api.State{})
	for _, from := range []int{0, 2} {
		quiet(t, m, commit(from, view(1, 1, 7)), api.ErrStale)
	}
	has(t, m, api.View{}, id(1, 1), false)
}

// P13.3: a commit of the view that was accepted ahead of the last one comes too late.
func TestInCommitTooLate(t *testing.T) {
	m := memberOf(t, 3, 2)
	m.In(propose(0, view(1, 0, 7)), api.State{})
	m.In(propose(1, view(1, 1, 7)), api.State{})
	quiet(t, m, commit(0, view(1, 0, 7)), api.ErrStale)
	has(t, m, api.View{}, id(1, 1), false)
	comes(t, m, commit(1, view(1, 1, 7)), api.State{}, nil, install(view(1, 1, 7)), api.OK)
}

// P13.3: between views a node isn't open.
func TestOpenBetweenViews(t *testing.T) {
	m := memberOf(t, 2, 1)
	for n := uint64(1); n < 5; n++ {
		before, v := m.Cur(), view(n, 0, 3)
		m.In(propose(0, v), api.State{})
		has(t, m, before, v.ID, false)
		m.In(commit(0, v), api.State{})
		has(t, m, v, v.ID, true)
	}
	m.Tick(2, api.State{})
	has(t, m, view(5, 1, 2), id(5, 1), true)
}
