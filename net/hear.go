package net

import (
	"folkmoot/api"
	"folkmoot/ident"
)

// Cut: two nodes don't hear one another.
func (t *Net) Cut(a, b int) api.Errno {
	return t.change(a, b, ident.Without)
}

// Join: two nodes hear one another.
func (t *Net) Join(a, b int) api.Errno {
	return t.change(a, b, ident.With)
}

// Hear: do they hear one another?
func (t *Net) Hear(a, b int) bool {
	return t.node(a) && ident.Has(t.hears[a], b)
}

// Class: the nodes that a node hears, itself among them, if all of them hear just these; 0: they don't.
func (t *Net) Class(i int) uint16 {
	if !t.node(i) {
		return 0
	}
	set := t.hears[i]
	for _, k := range ident.List(set) {
		if t.hears[k] != set {
			return 0
		}
	}
	return set
}

// node: is there such a node?
func (t *Net) node(i int) bool {
	return t != nil && i >= 0 && i < t.nodes
}

// change: each of two nodes is put into the other's set, or taken out of it.
func (t *Net) change(a, b int, how func(uint16, int) uint16) api.Errno {
	if t == nil {
		return api.ErrNone
	}
	if !t.node(a) || !t.node(b) || a == b {
		return api.ErrArg
	}
	t.hears[a] = how(t.hears[a], b)
	t.hears[b] = how(t.hears[b], a)
	return api.OK
}
