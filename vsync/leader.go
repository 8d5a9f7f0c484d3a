package vsync

import (
	"bytes"

	"folkmoot/api"
	"folkmoot/ident"
	"folkmoot/link"
	"folkmoot/member"
	"folkmoot/ring"
)

// enough is how many bytes may be on their way to all before the leader waits till they are safe: with one message more that a node has received it can still tell them in a frame.
const enough = api.MaxBytes / 4

// leader puts the messages of all into one order.
type leader struct {
	self  int
	has   *course
	own   *ring.Ring[[]byte] // its own messages, that wait to be ordered
	links [api.MaxNodes]*link.Link[api.Item, []byte]
}

func newLeader(c api.Config, self int, has *course) *leader {
	s := &leader{self: self, has: has}
	s.own, _ = ring.New[[]byte](c.Ring)
	for _, i := range others(has.view, self) {
		s.links[i], _ = link.New[api.Item, []byte](has.view.ID, c.Ring, c.Window)
	}
	return s
}

func (s *leader) send(m []byte) api.Errno {
	if e := s.own.Put(bytes.Clone(m)); e != api.OK {
		return e
	}
	s.has.tell(api.ESend, api.Item{M: m})
	s.order()
	return api.OK
}

// in: another node's messages, and word of how many of the order it has received.
func (s *leader) in(f api.Frame) api.Errno {
	k := s.links[f.From]
	if f.Kind != api.FUp || k == nil {
		return api.ErrStale
	}
	if _, e := k.In(link.Packet[[]byte]{Epoch: f.ID, Base: f.Base, Items: f.Msgs, Ack: f.Ack}); e != api.OK {
		return e
	}
	s.has.settle(s.come())
	s.order()
	return api.OK
}

// order: what waits is put into the order, as long as there is room for it on the way to all.
func (s *leader) order() {
	for s.has.kept.Room() > 0 && s.has.weight() < enough {
		x, e := s.next()
		if e != api.OK {
			return
		}
		for _, i := range others(s.has.view, s.self) {
			s.links[i].Put(x) // there is room: no link has more on its way than aren't known to be safe
		}
		s.has.receive(x)
		s.has.settle(s.come())
	}
}

// next: the message that is next in the order. Another node is asked first each time, so that nobody waits for ever.
func (s *leader) next() (api.Item, api.Errno) {
	l := ident.List(s.has.view.Set)
	for k := range l {
		i := l[(s.has.had()+k)%len(l)]
		if m, e := s.waiting(i); e == api.OK {
			return api.Item{From: i, M: m}, api.OK
		}
	}
	return api.Item{}, api.ErrNone
}

// waiting: a node's first message that isn't ordered, which waits no more.
func (s *leader) waiting(i int) ([]byte, api.Errno) {
	if i == s.self {
		return s.own.Take()
	}
	return s.links[i].Take()
}

// come: how many of the order all of the view are known to have received.
func (s *leader) come() uint64 {
	n := uint64(s.has.had())
	for _, i := range others(s.has.view, s.self) {
		n = min(n, s.links[i].Acked())
	}
	return n
}

func (s *leader) out() []member.Out {
	var l []member.Out
	for _, i := range others(s.has.view, s.self) {
		p := s.links[i].Out()
		f := api.Frame{Kind: api.FDown, From: s.self, ID: p.Epoch, Base: p.Base, Items: p.Items, Ack: p.Ack, Safe: uint64(s.has.safe)}
		l = append(l, member.Out{To: i, F: f})
	}
	return l
}
