package member

import (
	"bytes"
	"slices"

	"folkmoot/api"
	"folkmoot/cut"
	"folkmoot/ident"
)

// proposal is a view that a node has proposed: who has accepted it, and their states, in the order in which they came.
type proposal struct {
	view     api.View
	accepted uint16
	states   []api.State
}

// agreed: have all accepted it? (None but nodes of its set have.)
func (p *proposal) agreed() bool {
	return p.accepted == p.view.Set
}

// awaits: can a node's acceptance still come?
func (p *proposal) awaits(i int) bool {
	return ident.Has(p.view.Set, i) && !ident.Has(p.accepted, i)
}

func (p *proposal) accept(i int, st api.State) {
	p.accepted = ident.With(p.accepted, i)
	p.states = append(p.states, copied(st))
}

// join: from now on just what is to be told of the states is kept.
func (p *proposal) join() {
	p.states = cut.Join(p.states)
}

// joined: what is to be told of the states, in memory of its own.
func (p *proposal) joined() []api.State {
	return cut.Join(p.states)
}

func (p *proposal) ask() api.Frame {
	return api.Frame{Kind: api.FPropose, ID: p.view.ID, Set: p.view.Set}
}

func (p *proposal) commit() api.Frame {
	return api.Frame{Kind: api.FCommit, ID: p.view.ID, Set: p.view.Set, States: p.joined()}
}

// copied: the same state in memory of its own.
func copied(s api.State) api.State {
	s.Items = slices.Clone(s.Items)
	for i := range s.Items {
		s.Items[i].M = bytes.Clone(s.Items[i].M)
	}
	return s
}

// copiedAll: the same states in memory of their own.
func copiedAll(l []api.State) []api.State {
	l = slices.Clone(l)
	for i := range l {
		l[i] = copied(l[i])
	}
	return l
}
