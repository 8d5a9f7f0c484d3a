package node

import (
	"bytes"
	"slices"

	"folkmoot/api"
)

// Out: what is to be sent, once.
func (n *Node) Out() []api.Packet {
	if n == nil {
		return nil
	}
	return n.group.Out()
}

// View: the own view.
func (n *Node) View() api.View {
	if n == nil {
		return api.View{}
	}
	return n.group.View()
}

// Open: may messages be sent in the own view?
func (n *Node) Open() bool {
	return n != nil && n.group.Open()
}

// Est: of whom was heard of late.
func (n *Node) Est() uint16 {
	if n == nil {
		return 0
	}
	return n.group.Est()
}

// Sent: the messages of its clients, accepted.
func (n *Node) Sent() [][]byte {
	if n == nil {
		return nil
	}
	return copied(n.sent, func(m *[]byte) *[]byte { return m })
}

// Got: what was delivered.
func (n *Node) Got() []api.Item {
	if n == nil {
		return nil
	}
	return copied(n.got, func(x *api.Item) *[]byte { return &x.M })
}

// Trace: what has happened in views.
func (n *Node) Trace() []api.Event {
	if n == nil {
		return nil
	}
	return copied(n.trace, func(x *api.Event) *[]byte { return &x.M })
}

// Summary: what the node tells of itself.
func (n *Node) Summary() api.Summary {
	if n == nil {
		return api.Summary{}
	}
	return n.total.Summary()
}

// copied: the same list in memory of its own, and so the message of each part.
func copied[T any](l []T, message func(*T) *[]byte) []T {
	l = slices.Clone(l)
	for i := range l {
		m := message(&l[i])
		*m = bytes.Clone(*m)
	}
	return l
}
