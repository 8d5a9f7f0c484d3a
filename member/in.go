package member

import (
	"folkmoot/api"
	"folkmoot/ident"
)

// In: a frame has come; the state that the own view has: what is to be sent, and the view that comes of it.
func (m *Member) In(f api.Frame, st api.State) ([]Out, *Install, api.Errno) {
	if m == nil {
		return nil, nil, api.ErrNone
	}
	if !ident.Has(ident.Without(m.nodes, m.self), f.From) {
		return nil, nil, api.ErrArg
	}
	switch f.Kind {
	case api.FBeat:
		m.beat(f)
		return nil, nil, api.OK
	case api.FPropose:
		l, e := m.proposed(f, st)
		return l, nil, e
	case api.FAccept:
		return m.accepted(f)
	case api.FRefuse:
		m.refused(f)
		return nil, nil, api.OK
	case api.FCommit:
		in, e := m.committed(f)
		return nil, in, e
	}
	return nil, nil, api.ErrForm
}

// rise: a counter was heard of.
func (m *Member) rise(counter uint64) {
	m.high = max(m.high, counter)
}

func (m *Member) beat(f api.Frame) {
	m.told[f.From] = report{cur: f.Cur, prom: f.Prom}
	m.rise(f.Cur.N)
	m.rise(f.Prom.N)
}

// proposed: another node's proposal is accepted, if it is none from before.
func (m *Member) proposed(f api.Frame, st api.State) ([]Out, api.Errno) {
	both := ident.Has(f.Set, f.From) && ident.Has(f.Set, m.self)
	if f.ID.P != f.From || !both || f.Set&^m.nodes != 0 {
		return nil, api.ErrForm
	}
	m.rise(f.ID.N)
	if ident.Above(f.ID, m.prom) {
		m.prom = f.ID
		m.own = nil
	}
	// What was accepted is accepted again, as often as it is asked for: the answer may have been lost.
	if f.ID != m.prom || f.ID == m.cur.ID {
		no := m.out(f.From, api.Frame{Kind: api.FRefuse, ID: f.ID, Prom: m.prom})
		return []Out{no}, api.ErrStale
	}
	yes := m.out(f.From, api.Frame{Kind: api.FAccept, ID: f.ID, States: []api.State{copied(st)}})
	return []Out{yes}, api.OK
}

// accepted: another node has accepted the own proposal; the last one makes it a view.
func (m *Member) accepted(f api.Frame) ([]Out, *Install, api.Errno) {
	p := m.own
	if p == nil || f.ID != p.view.ID || !p.awaits(f.From) || len(f.States) != 1 {
		return nil, nil, api.ErrStale
	}
	p.accept(f.From, f.States[0])
	in := m.installOwn()
	if in == nil {
		return nil, nil, api.OK
	}
	return m.toOthers(p.commit, func(int) bool { return true }), in, api.OK
}

// refused: another node has accepted a later view than the own proposal, which is given up.
func (m *Member) refused(f api.Frame) {
	m.rise(f.Prom.N)
	p := m.own
	if p != nil && !p.agreed() && f.ID == p.view.ID && ident.Above(f.Prom, f.ID) {
		m.own = nil
	}
}

// committed: all have accepted the view that this node has accepted last.
func (m *Member) committed(f api.Frame) (*Install, api.Errno) {
	if f.ID != m.prom || f.ID == m.cur.ID || !ident.Has(f.Set, m.self) || f.ID.P != f.From {
		return nil, api.ErrStale
	}
	m.cur = api.View{ID: f.ID, Set: f.Set}
	return &Install{View: m.cur, States: copiedAll(f.States)}, api.OK
}
