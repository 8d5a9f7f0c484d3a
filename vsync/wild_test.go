package vsync_test

import (
	"math"
	"math/rand"
	"testing"

	"folkmoot/api"
	"folkmoot/frame"
	"folkmoot/vsync"
)

// wildID: a view's number, often a near one.
func wildID(r *rand.Rand, g *vsync.Group) api.ViewID {
	if r.Intn(400) == 0 {
		return api.ViewID{N: math.MaxUint64 - uint64(r.Intn(2)), P: r.Intn(api.MaxNodes)}
	}
	if r.Intn(3) == 0 {
		return g.View().ID
	}
	return api.ViewID{N: g.View().ID.N + uint64(r.Intn(3)), P: r.Intn(4)}
}

func wildItems(r *rand.Rand) []api.Item {
	var l []api.Item
	for range r.Intn(6) {
		l = append(l, item(r.Intn(api.MaxNodes), "ab"[:r.Intn(3)]))
	}
	return l
}

func wildStates(r *rand.Rand, g *vsync.Group) []api.State {
	var l []api.State
	for range r.Intn(3) {
		l = append(l, state(wildID(r, g), r.Intn(3), wildItems(r)...))
	}
	return l
}

func wildNumber(r *rand.Rand) uint64 {
	if r.Intn(8) == 0 {
		return math.MaxUint64 - uint64(r.Intn(3))
	}
	return uint64(r.Intn(4))
}

// wild: some frame, that nobody need have sent.
func wild(r *rand.Rand, g *vsync.Group) api.Frame {
	from, v, set := r.Intn(5), wildID(r, g), uint16(r.Intn(64))
	switch r.Intn(8) {
	case 0:
		return beatOf(from, wildID(r, g), v)
	case 1, 2:
		v.P = from
		return propose(from, api.View{ID: v, Set: set})
	case 3:
		return accept(from, v, state(wildID(r, g), r.Intn(3), wildItems(r)...))
	case 4:
		return refuse(from, v, wildID(r, g))
	case 5:
		v.P = from
		return commit(from, api.View{ID: v, Set: set | g.View().Set}, wildStates(r, g)...)
	case 6:
		return up(from, v, wildNumber(r), wildNumber(r), "a", "bc")
	}
	return down(from, v, wildNumber(r), wildNumber(r), wildNumber(r), wildItems(r)...)
}

// P1: whatever frames come, even those that no node sends, each call ends, and a node has one view behind another, and no more to tell of one than Ring.
func TestWild(t *testing.T) {
	views := 0
	for seed := range int64(400) {
		r := rand.New(rand.NewSource(seed))
		c := anyConfig(r, 1+r.Intn(5))
		self := r.Intn(c.Nodes)
		g := groupOf(t, c, self)
		for range 300 {
			switch r.Intn(6) {
			case 0:
				g.Tick()
			case 1:
				g.Send(make([]byte, r.Intn(4)))
			default:
				if b, e := frame.Encode(wild(r, g)); e == api.OK {
					g.In(b)
				}
			}
			for _, p := range g.Out() {
				f, e := frame.Decode(p.Bytes)
				if e != api.OK || p.From != self || f.From != self || p.To == self {
					t.Fatalf("%d: a packet that isn't right: %v, %d", seed, p, e)
				}
				if f.Kind == api.FAccept && len(f.States[0].Items) > c.Ring {
					t.Fatalf("%d: %d items", seed, len(f.States[0].Items))
				}
			}
			views += count(g.Events(), api.EView)
		}
	}
	if views < 1000 {
		t.Errorf("only %d views", views)
	}
}

// P1: bytes of all kinds.
func TestNoise(t *testing.T) {
	r := rand.New(rand.NewSource(1))
	g := follows(t, config(3), 1)
	for range 5000 {
		b := make([]byte, r.Intn(40))
		r.Read(b)
		if e := g.In(b); e == api.OK {
			t.Fatalf("In(%v) = 0", b)
		}
	}
	happened(t, g)
	sends(t, g, 1)
}
