package member_test

import (
	"fmt"
	"math"
	"testing"

	"folkmoot/api"
	"folkmoot/member"
)

func memberOf(t *testing.T, n, self int) *member.Member {
	t.Helper()
	m, e := member.New(n, self)
	if m == nil || e != api.OK {
		t.Fatalf("New(%d, %d) = %v, %d", n, self, m, e)
	}
	return m
}

func id(n uint64, p int) api.ViewID { return api.ViewID{N: n, P: p} }

func view(n uint64, p int, set uint16) api.View { return api.View{ID: id(n, p), Set: set} }

// state: what a node had of a view: so many that are safe, and these behind them, all of them From the node 0.
func state(v api.ViewID, floor int, texts ...string) api.State {
	s := api.State{V: v, Floor: floor}
	for _, m := range texts {
		s.Items = append(s.Items, api.Item{M: []byte(m)})
	}
	return s
}

func beatOf(from int, cur, prom api.ViewID) api.Frame {
	return api.Frame{Kind: api.FBeat, From: from, Cur: cur, Prom: prom}
}

func propose(from int, v api.View) api.Frame {
	return api.Frame{Kind: api.FPropose, From: from, ID: v.ID, Set: v.Set}
}

func accept(from int, v api.ViewID, l ...api.State) api.Frame {
	return api.Frame{Kind: api.FAccept, From: from, ID: v, States: l}
}

func refuse(from int, v, prom api.ViewID) api.Frame {
	return api.Frame{Kind: api.FRefuse, From: from, ID: v, Prom: prom}
}

func commit(from int, v api.View, l ...api.State) api.Frame {
	return api.Frame{Kind: api.FCommit, From: from, ID: v.ID, Set: v.Set, States: l}
}

func to(i int, f api.Frame) member.Out { return member.Out{To: i, F: f} }

func outs(l ...member.Out) []member.Out { return l }

func install(v api.View, l ...api.State) *member.Install {
	return &member.Install{View: v, States: l}
}

// told: an answer as a text, in which nil and empty lists are the same.
func told(l []member.Out, in *member.Install) string {
	if in == nil {
		return fmt.Sprintf("%v none", l)
	}
	return fmt.Sprintf("%v %v", l, *in)
}

func ticks(t *testing.T, m *member.Member, est uint16, st api.State, want []member.Out, wantIn *member.Install) {
	t.Helper()
	l, in := m.Tick(est, st)
	if got, want := told(l, in), told(want, wantIn); got != want {
		t.Fatalf("Tick(%b) = %s, want %s", est, got, want)
	}
}

func comes(t *testing.T, m *member.Member, f api.Frame, st api.State, want []member.Out, wantIn *member.Install, wantErr api.Errno) {
	t.Helper()
	l, in, e := m.In(f, st)
	if got, want := told(l, in), told(want, wantIn); got != want || e != wantErr {
		t.Fatalf("In(%v) = %s, %d, want %s, %d", f, got, e, want, wantErr)
	}
}

// quiet: a frame comes of which nothing but an error comes.
func quiet(t *testing.T, m *member.Member, f api.Frame, wantErr api.Errno) {
	t.Helper()
	comes(t, m, f, api.State{}, nil, nil, wantErr)
}

func has(t *testing.T, m *member.Member, cur api.View, prom api.ViewID, open bool) {
	t.Helper()
	if m.Cur() != cur || m.Prom() != prom || m.Open() != open {
		t.Fatalf("Cur, Prom, Open = %v, %v, %t, want %v, %v, %t", m.Cur(), m.Prom(), m.Open(), cur, prom, open)
	}
}

// inView: a node that is open in a view of its own, which all of the set have accepted, without states.
func inView(t *testing.T, n, self int, set uint16) *member.Member {
	t.Helper()
	m := memberOf(t, n, self)
	m.Tick(set, api.State{})
	for i := range n {
		if i != self && set&(1<<i) != 0 {
			m.In(accept(i, id(1, self), api.State{}), api.State{})
		}
	}
	has(t, m, view(1, self, set), id(1, self), true)
	return m
}

// nextCounter: how high a node counts, told by what it proposes when it is alone; the member is spent behind that.
func nextCounter(t *testing.T, m *member.Member, self int, want uint64) {
	t.Helper()
	_, in := m.Tick(1<<self, api.State{})
	if in == nil || in.View != view(want, self, 1<<self) {
		t.Fatalf("the next view is %v, want the counter %d", in, want)
	}
}

// P13.1
func TestNew(t *testing.T) {
	for n := 1; n <= api.MaxNodes; n++ {
		for self := range n {
			has(t, memberOf(t, n, self), api.View{}, api.ViewID{}, false)
		}
		for _, self := range []int{math.MinInt, -1, n, n + 1, api.MaxNodes, 64, math.MaxInt} {
			if m, e := member.New(n, self); m != nil || e != api.ErrArg {
				t.Errorf("New(%d, %d) = %v, %d", n, self, m, e)
			}
		}
	}
	for _, n := range []int{math.MinInt, -1, 0, api.MaxNodes + 1, 64, 65537, math.MaxInt} {
		for _, self := range []int{-1, 0, 1, n - 1, n} {
			if m, e := member.New(n, self); m != nil || e != api.ErrArg {
				t.Errorf("New(%d, %d) = %v, %d", n, self, m, e)
			}
		}
	}
}

// P13.1 to P13.3: the example, and how the other one sees it.
func TestTwoAgree(t *testing.T) {
	a, b := memberOf(t, 2, 0), memberOf(t, 2, 1)
	v := view(1, 0, 3)
	ticks(t, a, 3, api.State{}, outs(to(1, propose(0, v))), nil)
	has(t, a, api.View{}, v.ID, false)
	comes(t, b, propose(0, v), api.State{}, outs(to(0, accept(1, v.ID, api.State{}))), nil, api.OK)
	has(t, b, api.View{}, v.ID, false)
	comes(t, a, accept(1, v.ID, api.State{}), api.State{}, outs(to(1, commit(0, v))), install(v), api.OK)
	has(t, a, v, v.ID, true)
	comes(t, b, commit(0, v), api.State{}, nil, install(v), api.OK)
	has(t, b, v, v.ID, true)
	quiet(t, b, commit(0, v), api.ErrStale)
	has(t, b, v, v.ID, true)
}

// P13.2: where the node itself is all, its view is installed at once, and nothing is sent.
func TestTickAlone(t *testing.T) {
	for _, c := range []struct{ n, self int }{{1, 0}, {3, 0}, {3, 2}, {16, 15}} {
		m := memberOf(t, c.n, c.self)
		v := view(1, c.self, 1<<c.self)
		ticks(t, m, v.Set, api.State{}, nil, install(v))
		has(t, m, v, v.ID, true)
		for range 3 {
			ticks(t, m, v.Set, api.State{}, nil, nil)
			has(t, m, v, v.ID, true)
		}
	}
}

// P13.2: the state with which the node itself has accepted is told, if it is of a view.
func TestTickAloneTellsItsState(t *testing.T) {
	for _, c := range []struct {
		st   api.State
		want []api.State
	}{
		{api.State{}, nil},
		{state(id(0, 0), 2, "x"), nil},
		{state(id(1, 1), 0), []api.State{state(id(1, 1), 0)}},
		{state(id(1, 1), 2, "c", "d"), []api.State{state(id(1, 1), 2, "c", "d")}},
	} {
		ticks(t, memberOf(t, 2, 0), 1, c.st, nil, install(view(1, 0, 1), c.want...))
	}
}

// P13.2: the least of those who are heard of proposes, no other one; to each other one of them, rising.
func TestTickTheLeastProposes(t *testing.T) {
	const n = 4
	for self := range n {
		for est := uint16(1); est < 1<<n; est++ {
			if est&(1<<self) == 0 || est == 1<<self {
				continue
			}
			m := memberOf(t, n, self)
			if est&(1<<self-1) != 0 {
				ticks(t, m, est, api.State{}, nil, nil)
				has(t, m, api.View{}, api.ViewID{}, false)
				continue
			}
			var want []member.Out
			for i := self + 1; i < n; i++ {
				if est&(1<<i) != 0 {
					want = append(want, to(i, propose(self, view(1, self, est))))
				}
			}
			ticks(t, m, est, api.State{}, want, nil)
			has(t, m, api.View{}, id(1, self), false)
		}
	}
}

// P13.2: as many as there may be.
func TestTickOfAll(t *testing.T) {
	m := memberOf(t, api.MaxNodes, 0)
	l, in := m.Tick(math.MaxUint16, api.State{})
	if len(l) != api.MaxNodes-1 || in != nil {
		t.Fatalf("Tick = %v, %v", l, in)
	}
	for i, o := range l {
		if o.To != i+1 || o.F.Set != math.MaxUint16 {
			t.Fatalf("the place %d: %v", i, o)
		}
	}
	v := view(1, 0, math.MaxUint16)
	for i := api.MaxNodes - 1; i > 1; i-- {
		quiet(t, m, accept(i, v.ID, api.State{}), api.OK)
		has(t, m, api.View{}, v.ID, false)
	}
	l, in, e := m.In(accept(1, v.ID, api.State{}), api.State{})
	if len(l) != api.MaxNodes-1 || in == nil || in.View != v || e != api.OK {
		t.Fatalf("In = %v, %v, %d", l, in, e)
	}
	has(t, m, v, v.ID, true)
}

// P13.2: est has the node itself, and no others than nodes, whatever is handed in.
func TestTickEstIsOfNodes(t *testing.T) {
	v := view(1, 0, 3)
	for _, est := range []uint16{2, 3, 2 | 4, 3 | 1<<15, 0xffff, 0xfffe} {
		ticks(t, memberOf(t, 2, 0), est, api.State{}, outs(to(1, propose(0, v))), nil)
	}
	for _, est := range []uint16{0, 1, 4, 0xfffc} {
		ticks(t, memberOf(t, 2, 0), est, api.State{}, nil, install(view(1, 0, 1)))
	}
	for _, est := range []uint16{1, 3, 5, 0xffff} {
		ticks(t, memberOf(t, 2, 1), est, api.State{}, nil, nil)
	}
	m := inView(t, 2, 0, 3)
	quiet(t, m, beatOf(1, id(1, 0), id(1, 0)), api.OK)
	ticks(t, m, 0xfffe, api.State{}, nil, nil)
	has(t, m, v, v.ID, true)
}

// P13.2: without need nothing is proposed; each need by itself is one.
func TestTickNeed(t *testing.T) {
	v := view(1, 0, 7)
	open := func() *member.Member {
		m := inView(t, 4, 0, 7)
		quiet(t, m, beatOf(1, v.ID, v.ID), api.OK)
		quiet(t, m, beatOf(2, v.ID, v.ID), api.OK)
		return m
	}
	m := open()
	for range 3 {
		ticks(t, m, 7, api.State{}, nil, nil)
	}
	has(t, m, v, v.ID, true)

	// est isn't cur's set
	ticks(t, m, 15, api.State{}, outs(
		to(1, propose(0, view(2, 0, 15))), to(2, propose(0, view(2, 0, 15))), to(3, propose(0, view(2, 0, 15)))), nil)
	has(t, m, v, id(2, 0), false)
	m = open()
	ticks(t, m, 5, api.State{}, outs(to(2, propose(0, view(2, 0, 5)))), nil)

	// one of est has told a Prom above cur's number
	for _, prom := range []api.ViewID{id(1, 1), id(2, 0), id(9, 3)} {
		m = open()
		quiet(t, m, beatOf(2, v.ID, prom), api.OK)
		w := view(prom.N+1, 0, 7)
		ticks(t, m, 7, api.State{}, outs(to(1, propose(0, w)), to(2, propose(0, w))), nil)
		has(t, m, v, w.ID, false)
	}

	// it isn't open
	m = open()
	comes(t, m, propose(1, view(2, 1, 3)), api.State{}, outs(to(1, accept(0, id(2, 1), api.State{}))), nil, api.OK)
	w := view(3, 0, 7)
	ticks(t, m, 7, api.State{}, outs(to(1, propose(0, w)), to(2, propose(0, w))), nil)
}

// P13.2: what isn't above cur's number, what was told earlier, what is a Cur, and what others than those of est told, is no need.
func TestTickNoNeed(t *testing.T) {
	v := view(2, 1, 6)
	for _, c := range []struct {
		name string
		l    []api.Frame
	}{
		{"below, and the same", []api.Frame{beatOf(2, v.ID, id(2, 0)), beatOf(2, v.ID, id(1, 3)), beatOf(2, v.ID, v.ID)}},
		{"told earlier", []api.Frame{beatOf(2, v.ID, id(7, 2)), beatOf(2, v.ID, v.ID)}},
		{"a Cur above it", []api.Frame{beatOf(2, id(7, 2), v.ID), beatOf(2, v.ID, v.ID)}},
		{"others than those of est", []api.Frame{beatOf(2, v.ID, v.ID), beatOf(3, id(7, 3), id(7, 3)), beatOf(0, id(8, 0), id(8, 0))}},
	} {
		m := memberOf(t, 4, 1)
		quiet(t, m, beatOf(2, api.ViewID{}, id(1, 2)), api.OK)
		m.Tick(6, api.State{})
		m.In(accept(2, v.ID, api.State{}), api.State{})
		for _, f := range c.l {
			quiet(t, m, f, api.OK)
		}
		ticks(t, m, 6, api.State{}, nil, nil)
		has(t, m, v, v.ID, true)
	}
}

// P13.2: a node that isn't the least doesn't propose, whatever the need, and stays as it is.
func TestTickNeedOfAnotherThanTheLeast(t *testing.T) {
	m := memberOf(t, 3, 1)
	quiet(t, m, beatOf(0, id(5, 0), id(5, 0)), api.OK)
	for _, est := range []uint16{3, 7, 1, 5} {
		ticks(t, m, est, api.State{}, nil, nil)
		has(t, m, api.View{}, api.ViewID{}, false)
	}
	nextCounter(t, m, 1, 6)
}

// P13.2: a proposal that stands is sent again, to those who haven't accepted it.
func TestTickAStandingProposal(t *testing.T) {
	m := memberOf(t, 4, 0)
	v := view(1, 0, 15)
	ask := func(l ...int) []member.Out {
		var r []member.Out
		for _, i := range l {
			r = append(r, to(i, propose(0, v)))
		}
		return r
	}
	ticks(t, m, 15, api.State{}, ask(1, 2, 3), nil)
	ticks(t, m, 15, api.State{}, ask(1, 2, 3), nil)
	quiet(t, m, accept(2, v.ID, api.State{}), api.OK)
	ticks(t, m, 15, api.State{}, ask(1, 3), nil)
	// a Prom of its own number, or of one below it, doesn't upset it
	quiet(t, m, beatOf(1, api.ViewID{}, v.ID), api.OK)
	quiet(t, m, beatOf(2, api.ViewID{}, id(0, 0)), api.OK)
	ticks(t, m, 15, api.State{}, ask(1, 3), nil)
	quiet(t, m, accept(3, v.ID, api.State{}), api.OK)
	ticks(t, m, 15, api.State{}, ask(1), nil)
	has(t, m, api.View{}, v.ID, false)
}

// P13.2: one that doesn't stand is given up for a new one.
func TestTickProposesAnew(t *testing.T) {
	begin := func() *member.Member {
		m := memberOf(t, 4, 0)
		m.Tick(7, api.State{})
		quiet(t, m, accept(1, id(1, 0), api.State{}), api.OK)
		return m
	}
	both := func(v api.View) []member.Out { return outs(to(1, propose(0, v)), to(2, propose(0, v))) }

	// its set isn't est
	m := begin()
	ticks(t, m, 5, api.State{}, outs(to(2, propose(0, view(2, 0, 5)))), nil)
	has(t, m, api.View{}, id(2, 0), false)
	quiet(t, m, accept(2, id(1, 0), api.State{}), api.ErrStale)
	ticks(t, m, 7, api.State{}, both(view(3, 0, 7)), nil)
	ticks(t, m, 1, api.State{}, nil, install(view(4, 0, 1)))

	// one of est has told a Prom above it
	m = begin()
	quiet(t, m, beatOf(2, api.ViewID{}, id(1, 2)), api.OK)
	ticks(t, m, 7, api.State{}, both(view(2, 0, 7)), nil)
	has(t, m, api.View{}, id(2, 0), false)
	ticks(t, m, 7, api.State{}, both(view(2, 0, 7)), nil)

	// one who isn't of est has
	m = begin()
	quiet(t, m, beatOf(3, api.ViewID{}, id(9, 3)), api.OK)
	ticks(t, m, 7, api.State{}, outs(to(2, propose(0, view(1, 0, 7)))), nil)

	// its number isn't prom
	m = begin()
	comes(t, m, propose(2, view(1, 2, 7)), api.State{}, outs(to(2, accept(0, id(1, 2), api.State{}))), nil, api.OK)
	ticks(t, m, 7, api.State{}, both(view(2, 0, 7)), nil)

	// it was refused
	m = begin()
	quiet(t, m, refuse(2, id(1, 0), id(4, 1)), api.OK)
	ticks(t, m, 7, api.State{}, both(view(5, 0, 7)), nil)
}

// P13.2: who is no more the least proposes nothing new, but sends what it has proposed.
func TestTickAsksWithoutBeingTheLeast(t *testing.T) {
	m := memberOf(t, 3, 1)
	v := view(1, 1, 6)
	ticks(t, m, 6, api.State{}, outs(to(2, propose(1, v))), nil)
	ticks(t, m, 7, api.State{}, outs(to(2, propose(1, v))), nil)
	comes(t, m, accept(2, v.ID, api.State{}), api.State{}, outs(to(2, commit(1, v))), install(v), api.OK)
	ticks(t, m, 7, api.State{}, outs(to(2, commit(1, v))), nil)
	has(t, m, v, v.ID, true)
}

// P13.2: what was agreed upon is told till each one's last beat tells it as Cur.
func TestTickTellsAgain(t *testing.T) {
	m := memberOf(t, 3, 0)
	v := view(1, 0, 7)
	s := state(id(1, 1), 1, "b", "c")
	m.Tick(7, api.State{})
	quiet(t, m, accept(2, v.ID, s), api.OK)
	both := outs(to(1, commit(0, v, s)), to(2, commit(0, v, s)))
	comes(t, m, accept(1, v.ID, api.State{}), api.State{}, both, install(v, s), api.OK)
	ticks(t, m, 7, api.State{}, both, nil)
	ticks(t, m, 7, api.State{}, both, nil)
	quiet(t, m, beatOf(1, api.ViewID{}, v.ID), api.OK)
	ticks(t, m, 7, api.State{}, both, nil)
	quiet(t, m, beatOf(1, v.ID, v.ID), api.OK)
	ticks(t, m, 7, api.State{}, both[1:], nil)
	quiet(t, m, beatOf(2, v.ID, v.ID), api.OK)
	ticks(t, m, 7, api.State{}, nil, nil)
	// a beat from before that comes late is the last one, too
	quiet(t, m, beatOf(1, api.ViewID{}, api.ViewID{}), api.OK)
	ticks(t, m, 7, api.State{}, both[:1], nil)
	has(t, m, v, v.ID, true)
}

// P13.2: behind another node's proposal that was accepted, one's own is neither asked for nor told.
func TestTickBehindAnotherProposal(t *testing.T) {
	for _, agreed := range []bool{false, true} {
		m := memberOf(t, 3, 1)
		m.Tick(6, api.State{})
		if agreed {
			m.In(accept(2, id(1, 1), api.State{}), api.State{})
		}
		comes(t, m, propose(0, view(2, 0, 7)), api.State{}, outs(to(0, accept(1, id(2, 0), api.State{}))), nil, api.OK)
		for range 2 {
			ticks(t, m, 7, api.State{}, nil, nil)
		}
		quiet(t, m, accept(2, id(1, 1), api.State{}), api.ErrStale)
		if m.Prom() != id(2, 0) || m.Open() {
			t.Fatalf("Prom, Open = %v, %t", m.Prom(), m.Open())
		}
	}
}

// P13.2: the node's own state is the one that it had when it proposed.
func TestTickKeepsTheStateOfTheProposal(t *testing.T) {
	m := memberOf(t, 2, 0)
	v := view(1, 0, 3)
	first, later := state(id(1, 1), 0, "a"), state(id(1, 1), 0, "a", "b")
	m.Tick(3, first)
	m.Tick(3, later)
	comes(t, m, accept(1, v.ID, api.State{}), later, outs(to(1, commit(0, v, first))), install(v, first), api.OK)
	ticks(t, m, 3, later, outs(to(1, commit(0, v, first))), nil)
}

// P13.2: behind the greatest counter there is no number that rises.
func TestTickAtTheGreatestCounter(t *testing.T) {
	m := memberOf(t, 2, 0)
	quiet(t, m, beatOf(1, id(math.MaxUint64-1, 1), api.ViewID{}), api.OK)
	last := view(math.MaxUint64, 0, 1)
	ticks(t, m, 1, api.State{}, nil, install(last))
	for _, est := range []uint16{1, 3, 1} {
		ticks(t, m, est, api.State{}, nil, nil)
		has(t, m, last, last.ID, true)
	}
	comes(t, m, propose(1, view(math.MaxUint64, 1, 3)), api.State{},
		outs(to(1, accept(0, id(math.MaxUint64, 1), api.State{}))), nil, api.OK)
	ticks(t, m, 3, api.State{}, nil, nil)
	has(t, m, last, id(math.MaxUint64, 1), false)
}

// P13.1 to P13.3
func TestNil(t *testing.T) {
	var m *member.Member
	has(t, m, api.View{}, api.ViewID{}, false)
	for _, est := range []uint16{0, 1, 3, 0xffff} {
		ticks(t, m, est, state(id(1, 0), 0, "a"), nil, nil)
	}
	for kind := range 256 {
		for _, from := range []int{-1, 0, 1, api.MaxNodes} {
			quiet(t, m, api.Frame{Kind: byte(kind), From: from, ID: id(1, from), Set: 3}, api.ErrNone)
		}
	}
}
