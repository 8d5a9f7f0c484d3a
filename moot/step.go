package moot

import (
	"folkmoot/api"
	"folkmoot/net"
	"folkmoot/node"
)

// Do: a step of a script.
func (m *Moot) Do(x api.Step) api.Errno {
	if m == nil {
		return api.ErrNone
	}
	switch x.Kind {
	case api.SBcast:
		return m.act(x.I, func(n *node.Node) api.Errno { return n.Bcast(x.M) })
	case api.STick:
		return m.act(x.I, (*node.Node).Tick)
	case api.SDeliver:
		return m.deliver(x.I)
	case api.SDrop:
		return m.net.Drop(x.I)
	case api.SDouble:
		return m.net.Double(x.I)
	case api.STurn:
		return m.net.Turn(x.I, x.K)
	case api.SCut, api.SJoin:
		return hearing(x.Kind)(m.net, x.I, x.K)
	case api.SCalm:
		return m.calm(x.I)
	}
	return api.ErrArg
}

// hearing: what changes who hears whom.
func hearing(kind byte) func(t *net.Net, a, b int) api.Errno {
	if kind == api.SCut {
		return (*net.Net).Cut
	}
	return (*net.Net).Join
}

// act: a node does something. What it has to send behind that is put into the net even beside an error: a refusal is sent beside one.
func (m *Moot) act(i int, something func(*node.Node) api.Errno) api.Errno {
	n := m.Node(i)
	if n == nil {
		return api.ErrArg
	}
	e := something(n)
	for _, p := range n.Out() {
		m.net.Put(p) // for what there is no room is lost
	}
	return e
}

// deliver: the packet at a place comes to its node.
func (m *Moot) deliver(i int) api.Errno {
	p, e := m.net.Take(i)
	if e != api.OK {
		return e
	}
	return m.act(p.To, func(n *node.Node) api.Errno { return n.In(p.Bytes) })
}

// calm: so many ticks, in each of which all tick and all comes.
func (m *Moot) calm(ticks int) api.Errno {
	if ticks < 0 || ticks > api.MaxDelay {
		return api.ErrArg
	}
	for range ticks {
		for i := range m.nodes {
			m.act(i, (*node.Node).Tick)
		}
		// It ends: what comes brings answers, but those bring none in the end.
		for m.net.Len() > 0 {
			m.deliver(0)
		}
	}
	return api.OK
}
