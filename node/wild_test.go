package node_test

import (
	"fmt"
	"math"
	"math/rand"
	"testing"

	"folkmoot/api"
	"folkmoot/content"
	"folkmoot/frame"
	"folkmoot/node"
)

// wildLabel: a label that a node may have, often one of few.
func wildLabel(r *rand.Rand) api.Label {
	return api.Label{V: api.ViewID{N: 1 + uint64(r.Intn(3)), P: r.Intn(2)}, Seq: 1 + uint64(r.Intn(3)), P: r.Intn(4)}
}

// wildMessage: what a node of a view may tell, but need not.
func wildMessage(r *rand.Rand) []byte {
	if r.Intn(5) == 0 {
		return make([]byte, r.Intn(4))
	}
	if r.Intn(2) == 0 {
		b, _ := content.EncodeOne(api.Entry{L: wildLabel(r), M: []byte{byte(r.Intn(4))}})
		return b
	}
	s := api.Summary{High: api.ViewID{N: uint64(r.Intn(4)), P: r.Intn(2)}}
	for range r.Intn(3) {
		s.Con = content.Put(s.Con, api.Entry{L: wildLabel(r), M: []byte{byte(r.Intn(4))}})
	}
	for range r.Intn(3) {
		s.Ord = append(s.Ord, wildLabel(r))
	}
	s.Next = 1 + r.Intn(len(s.Ord)+1)
	b, _ := content.EncodeAll(s)
	return b
}

// wildFrame: some frame, often of the node's view, that nobody need have sent.
func wildFrame(r *rand.Rand, n *node.Node) api.Frame {
	v := n.View()
	f := api.Frame{Kind: api.FBeat + byte(r.Intn(7)), From: r.Intn(4), ID: v.ID}
	next := api.ViewID{N: v.ID.N + 1 + uint64(r.Intn(2)), P: f.From}
	switch f.Kind {
	case api.FBeat:
		f.ID, f.Cur, f.Prom = api.ViewID{}, v.ID, v.ID
		if r.Intn(8) == 0 {
			f.Prom = next
		}
	case api.FPropose, api.FCommit:
		f.ID, f.Set = next, uint16(r.Intn(16))|1<<f.From
	case api.FAccept:
		f.States = []api.State{{V: v.ID, Floor: r.Intn(3), Items: []api.Item{{From: r.Intn(4), M: wildMessage(r)}}}}
	case api.FRefuse:
		f.Prom = next
	case api.FUp:
		f.Base, f.Ack = uint64(r.Intn(6)), uint64(r.Intn(6))
		f.Msgs = [][]byte{wildMessage(r), wildMessage(r)}
	case api.FDown:
		f.Base, f.Ack, f.Safe = uint64(r.Intn(6)), uint64(r.Intn(6)), uint64(r.Intn(8))
		f.Items = []api.Item{{From: r.Intn(4), M: wildMessage(r)}, {From: r.Intn(4), M: wildMessage(r)}}
	}
	if r.Intn(20) == 0 {
		f.ID.N = math.MaxUint64
	}
	return f
}

// P1, P7, P18.2: whatever frames come, even those that no node sends, each call ends, and the node still does what its Group and its Total do together.
func TestWild(t *testing.T) {
	views, delivered := 0, 0
	for seed := range int64(300) {
		r := rand.New(rand.NewSource(seed))
		c := anyConfig(-seed, 1+r.Intn(4))
		w := twinOf(t, c, r.Intn(c.Nodes))
		for range 150 {
			switch r.Intn(6) {
			case 0:
				w.tick()
			case 1:
				w.bcast(fmt.Append(nil, r.Intn(9)))
			default:
				if b, e := frame.Encode(wildFrame(r, w.node)); e == api.OK {
					w.in(b)
				}
			}
		}
		if n := len(w.node.Sent()); n > api.MaxOwn || w.total.Waiting() > c.Queue {
			t.Fatalf("%d: %d are accepted, %d wait", seed, n, w.total.Waiting())
		}
		for _, x := range w.trace {
			if x.Kind == api.EView {
				views++
			}
		}
		delivered += len(w.got)
	}
	if views < 300 || delivered < 300 {
		t.Errorf("only %d views, and %d messages that were delivered", views, delivered)
	}
}

// P1: bytes of all kinds.
func TestNoise(t *testing.T) {
	r := rand.New(rand.NewSource(1))
	n := nodeOf(t, config(2), 1)
	joins(t, n, view(1, 3))
	l := len(n.Trace())
	for range 5000 {
		b := make([]byte, r.Intn(40))
		r.Read(b)
		if e := n.In(b); e == api.OK {
			t.Fatalf("In(%v) = 0", b)
		}
	}
	behind(t, n, l)
}
