package net

import (
	"folkmoot/api"
)

// packet is one that is under way.
//
// Its bytes are those that were put. They are never changed, so that all doubles of a packet may share them, however long they are; which bits were turned stands beside them.
type packet struct {
	from, to int
	bytes    []byte
	turned   [Most]int
	turns    int
}

// keep: p under way, with bytes of its own.
func keep(p api.Packet) packet {
	return packet{from: p.From, to: p.To, bytes: lay(p.Bytes)}
}

// tell: the packet as it is by now.
func (p *packet) tell() api.Packet {
	b := lay(p.bytes)
	for _, bit := range p.turned[:p.turns] {
		b[bit/8] ^= 1 << (bit % 8)
	}
	return api.Packet{From: p.from, To: p.to, Bytes: b}
}

// turn: one more bit is turned. A double has its turns from the packet of which it is one.
func (p *packet) turn(bit int) api.Errno {
	if bit < 0 || bit/8 >= len(p.bytes) {
		return api.ErrArg
	}
	if p.turns == Most {
		return api.ErrState
	}
	p.turned[p.turns] = bit
	p.turns++
	return api.OK
}

// lay: the same bytes in new memory.
func lay(p []byte) []byte {
	b := make([]byte, len(p))
	copy(b, p)
	return b
}
