package vsync

import (
	"bytes"

	"folkmoot/api"
	"folkmoot/link"
	"folkmoot/member"
)

// follower sends its messages to the leader, and receives all of them from it.
type follower struct {
	self  int
	first int // the leader
	has   *course
	link  *link.Link[[]byte, api.Item]
}

func newFollower(c api.Config, self, first int, has *course) *follower {
	s := &follower{self: self, first: first, has: has}
	s.link, _ = link.New[[]byte, api.Item](has.view.ID, c.Ring, c.Window)
	return s
}

func (s *follower) send(m []byte) api.Errno {
	if e := s.link.Put(bytes.Clone(m)); e != api.OK {
		return e
	}
	s.has.tell(api.ESend, api.Item{M: m})
	return api.OK
}

// in: messages in the leader's order, and word of how many are safe.
func (s *follower) in(f api.Frame) api.Errno {
	if f.Kind != api.FDown || f.From != s.first {
		return api.ErrStale
	}
	if _, e := s.link.In(link.Packet[api.Item]{Epoch: f.ID, Base: f.Base, Items: f.Items, Ack: f.Ack}); e != api.OK {
		return e
	}
	s.receive(f.Safe)
	return api.OK
}

// receive: all that has come; so many are safe. What is safe goes first, as it makes room for the others.
func (s *follower) receive(safe uint64) {
	s.has.settle(safe)
	for s.has.kept.Room() > 0 {
		x, e := s.link.Take()
		if e != api.OK {
			return
		}
		s.has.receive(x)
		s.has.settle(safe)
	}
}

func (s *follower) out() []member.Out {
	p := s.link.Out()
	f := api.Frame{Kind: api.FUp, From: s.self, ID: p.Epoch, Base: p.Base, Msgs: light(p.Items), Ack: p.Ack}
	return []member.Out{{To: s.first, F: f}}
}

// light: the first of these messages, as many as a frame surely has room for.
func light(l [][]byte) [][]byte {
	n := 0
	for i, m := range l {
		n += len(m)
		if n > longest {
			return l[:i]
		}
	}
	return l
}
