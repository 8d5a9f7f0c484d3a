package judge

import (
	"folkmoot/api"
	"folkmoot/ident"
)

// stay is a node's time in a view: what it sent and received there, how many of these it knew to be safe, and the number of the view behind it (none's, if it is the last one).
type stay struct {
	node int
	view api.View
	sent [][]byte
	got  []api.Item
	safe int
	next api.ViewID
}

// staysOf: a node's times in views, one behind the other; false: no node has such events, whatever the others have.
func staysOf(node int, trace []api.Event) ([]*stay, bool) {
	var l []*stay
	last := &stay{node: node}
	for _, e := range trace {
		if e.Kind != api.EView {
			if !last.take(e) {
				return nil, false
			}
			continue
		}
		if !last.before(e.View) {
			return nil, false
		}
		last.next = e.View.ID
		last = &stay{node: node, view: e.View}
		l = append(l, last)
	}
	return l, true
}

// before: may the node go on into this view?
func (s *stay) before(v api.View) bool {
	return v.ID.N > 0 && ident.Has(v.Set, s.node) && ident.Above(v.ID, s.view.ID)
}

// take: an event in the view; false: it can't have happened there, or there is no view yet.
func (s *stay) take(e api.Event) bool {
	if s.view.ID.N == 0 || e.View != s.view {
		return false
	}
	switch e.Kind {
	case api.ESend:
		s.sent = append(s.sent, e.M)
	case api.ERecv:
		s.got = append(s.got, api.Item{From: e.From, M: e.M})
	case api.ESafe:
		return s.settle(api.Item{From: e.From, M: e.M})
	default:
		return false
	}
	return true
}

// settle: the next one is known to be safe; false: that isn't the next one that was received.
func (s *stay) settle(x api.Item) bool {
	if s.safe == len(s.got) || !same(s.got[s.safe], x) {
		return false
	}
	s.safe++
	return true
}
