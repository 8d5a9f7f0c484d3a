package vsync

import (
	"folkmoot/api"
	"folkmoot/ident"
	"folkmoot/member"
)

// seat is what a node does in its view while that is open: the leader's, or another node's.
type seat interface {
	send(m []byte) api.Errno
	in(f api.Frame) api.Errno // a frame of this view, of another node
	out() []member.Out        // what the links have to send
}

// newSeat: the least node of the view leads it.
func newSeat(c api.Config, self int, has *course) seat {
	if first := ident.Least(has.view.Set); first != self {
		return newFollower(c, self, first, has)
	}
	return newLeader(c, self, has)
}
