package vsync_test

import (
	"bytes"
	"testing"

	"folkmoot/api"
	"folkmoot/frame"
	"folkmoot/vsync"
)

// P14.2: frame.Decode's error.
func TestInRefusesBytes(t *testing.T) {
	g := follows(t, config(3), 1)
	right := bytesOf(t, down(0, full(3).ID, 0, 0, 0, item(2, "a")))
	turned := bytes.Clone(right)
	turned[4] ^= 8
	form := bytes.Clone(right)
	for _, b := range [][]byte{nil, {}, {1}, turned, form[:len(form)-1], append(form, 0), make([]byte, api.MaxBytes+1), make([]byte, api.MaxBytes)} {
		_, want := frame.Decode(b)
		if e := g.In(b); e != want || e == api.OK {
			t.Errorf("In of %d bytes = %d, want %d", len(b), e, want)
		}
	}
	happened(t, g)
	if e := g.In(right); e != api.OK {
		t.Fatalf("In = %d", e)
	}
	happened(t, g, received(full(3), 2, "a"))
}

// P14.2: each bit that is turned is found, and nothing comes of it.
func TestInRefusesWhatIsSpoilt(t *testing.T) {
	g := follows(t, config(3), 1)
	v := full(3)
	for _, f := range []api.Frame{down(0, v.ID, 0, 0, 0, item(2, "a")), beatOf(2, v.ID, id(9, 2)), propose(0, view(2, 0, 7)), commit(0, view(2, 0, 7))} {
		b := bytesOf(t, f)
		for bit := range 8 * len(b) {
			spoilt := bytes.Clone(b)
			spoilt[bit/8] ^= 1 << (bit % 8)
			if e := g.In(spoilt); e != api.ErrSum && e != api.ErrForm {
				t.Fatalf("In(%v with the bit %d turned) = %d", f, bit, e)
			}
		}
	}
	sends(t, g, 1)
	happened(t, g)
	has(t, g, v, true, 7)
}

// P14.2: From is no other node, whatever else is wrong.
func TestInRefusesFrom(t *testing.T) {
	v := full(3)
	for self, g := range []*vsync.Group{leads(t, config(3)), follows(t, config(3), 1)} {
		for _, from := range []int{self, 3, api.MaxNodes - 1} {
			for _, f := range []api.Frame{
				beatOf(from, v.ID, v.ID), propose(from, view(9, from, 7)), accept(from, v.ID, api.State{}),
				refuse(from, v.ID, id(9, 1)), commit(from, view(9, from, 7)),
				up(from, v.ID, 0, 0, "a"), down(from, v.ID, 0, 0, 0, item(0, "a")),
				up(from, id(9, 0), 9, 9, "a"), down(from, id(9, 0), 9, 9, 9, item(0, "a")),
			} {
				comes(t, g, f, api.ErrArg)
			}
		}
		sends(t, g, self)
		happened(t, g)
		has(t, g, v, true, 7)
	}
	// without a view, too
	comes(t, groupOf(t, config(3), 1), up(1, v.ID, 0, 0), api.ErrArg)
	comes(t, groupOf(t, config(3), 1), down(3, v.ID, 0, 0, 0), api.ErrArg)
}

// P14.2: a beat is heard, and what it tells comes to member; other frames are no beats.
func TestInBeat(t *testing.T) {
	c := config(3)
	c.Miss = 3
	g := groupOf(t, c, 0)
	comes(t, g, refuse(2, id(1, 0), id(4, 1)), api.OK)
	comes(t, g, propose(1, view(1, 1, 3)), api.OK)
	has(t, g, api.View{}, false, 1)
	comes(t, g, beatOf(2, api.ViewID{}, api.ViewID{}), api.OK)
	has(t, g, api.View{}, false, 5)
	g.Out()
	g.Tick()
	b := beatOf(0, api.ViewID{}, id(1, 1))
	sends(t, g, 0, out{1, b}, out{2, b}, out{2, propose(0, view(5, 0, 5))})
	g.Tick()
	comes(t, g, beatOf(2, id(7, 1), id(8, 1)), api.OK)
	g.Out()
	g.Tick()
	sends(t, g, 0, out{1, beatOf(0, api.ViewID{}, id(5, 0))}, out{2, beatOf(0, api.ViewID{}, id(5, 0))}, out{2, propose(0, view(9, 0, 5))})
	for range 2 {
		has(t, g, api.View{}, false, 5)
		g.Tick()
	}
	has(t, g, view(10, 0, 1), true, 1)
}

// P14.2: member's errors, and what it sends beside one.
func TestInMember(t *testing.T) {
	v := full(3)
	g := follows(t, config(3), 1)
	comes(t, g, propose(0, v), api.ErrStale)
	sends(t, g, 1, out{0, refuse(1, v.ID, v.ID)})
	comes(t, g, propose(0, view(2, 0, 5)), api.ErrForm)
	comes(t, g, propose(2, view(2, 0, 7)), api.ErrForm)
	comes(t, g, accept(2, id(1, 1), api.State{}), api.ErrStale)
	comes(t, g, commit(0, v), api.ErrStale)
	comes(t, g, commit(0, view(2, 0, 7)), api.ErrStale)
	comes(t, g, refuse(2, id(1, 1), id(3, 2)), api.OK)
	sends(t, g, 1)
	happened(t, g)
	has(t, g, v, true, 7)
}

// P14.2: messages that come to a node that has no view, or another one, or has accepted another one, or that isn't the leader, or that aren't the leader's.
func TestInStale(t *testing.T) {
	v := full(3)
	stale := func(g *vsync.Group, l ...api.Frame) {
		t.Helper()
		for _, f := range l {
			comes(t, g, f, api.ErrStale)
		}
		happened(t, g)
	}
	a, b := groupOf(t, config(3), 0), groupOf(t, config(3), 1)
	stale(a, up(1, v.ID, 0, 0, "a"), down(1, v.ID, 0, 0, 0, item(1, "a")))
	stale(b, up(2, v.ID, 0, 0, "a"), down(0, v.ID, 0, 0, 0, item(1, "a")))
	a, b = leads(t, config(3)), follows(t, config(3), 1)
	for _, w := range []api.ViewID{id(1, 1), id(2, 0), id(1, 2)} {
		stale(a, up(1, w, 0, 0, "a"))
		stale(b, down(0, w, 0, 0, 0, item(1, "a")))
	}
	stale(a, down(1, v.ID, 0, 0, 0, item(1, "a")), down(2, v.ID, 0, 0, 0, item(1, "a")))
	stale(b, up(0, v.ID, 0, 0, "a"), up(2, v.ID, 0, 0, "a"), down(2, v.ID, 0, 0, 0, item(1, "a")))
	comes(t, a, propose(1, view(2, 1, 7)), api.OK)
	comes(t, b, propose(2, view(2, 2, 7)), api.OK)
	stale(a, up(1, v.ID, 0, 0, "a"), up(1, id(2, 1), 0, 0, "a"))
	stale(b, down(0, v.ID, 0, 0, 0, item(1, "a")), down(0, id(2, 2), 0, 0, 0, item(1, "a")))
	has(t, a, v, false, 7)
	has(t, b, v, false, 7)
}

// P14.2: a node that isn't of the view has nothing to tell in it.
func TestInOfAnotherNode(t *testing.T) {
	c := config(3)
	g := groupOf(t, c, 0)
	comes(t, g, beatOf(2, api.ViewID{}, api.ViewID{}), api.OK)
	g.Tick()
	v := view(1, 0, 5)
	comes(t, g, accept(2, v.ID, api.State{}), api.OK)
	happened(t, g, viewed(v))
	comes(t, g, up(1, v.ID, 0, 0, "a"), api.ErrStale)
	comes(t, g, up(2, v.ID, 0, 0, "b"), api.OK)
	happened(t, g, received(v, 2, "b"))
}

// P14.2: link.In's error: what the other end can't have sent.
func TestInLink(t *testing.T) {
	v := full(3)
	a, b := leads(t, config(3)), follows(t, config(3), 1)
	comes(t, a, up(1, v.ID, 1, 0, "a"), api.ErrArg)
	comes(t, a, up(1, v.ID, 0, 1, "a"), api.ErrArg)
	comes(t, b, down(0, v.ID, 1, 0, 0, item(0, "a")), api.ErrArg)
	comes(t, b, down(0, v.ID, 0, 1, 0, item(0, "a")), api.ErrArg)
	happened(t, a)
	happened(t, b)
	comes(t, a, up(1, v.ID, 0, 0, "a", "b"), api.OK)
	comes(t, a, up(1, v.ID, 0, 0, "a", "b"), api.OK)
	comes(t, a, up(1, v.ID, 1, 0, "b", "c"), api.OK)
	happened(t, a, received(v, 1, "a"), received(v, 1, "b"), received(v, 1, "c"))
	comes(t, b, down(0, v.ID, 0, 0, 0, item(0, "a"), item(1, "b")), api.OK)
	comes(t, b, down(0, v.ID, 0, 0, 0, item(0, "a"), item(1, "b")), api.OK)
	comes(t, b, down(0, v.ID, 1, 0, 0, item(1, "b"), item(2, "c")), api.OK)
	comes(t, b, down(0, v.ID, 4, 0, 0, item(1, "b"), item(2, "c")), api.ErrArg)
	happened(t, b, received(v, 0, "a"), received(v, 1, "b"), received(v, 2, "c"))
}
