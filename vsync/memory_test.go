package vsync_test

import (
	"bytes"
	"fmt"
	"testing"

	"folkmoot/api"
	"folkmoot/vsync"
)

// roomy: bytes behind which there is spare room, with a mark in it.
func roomy(b []byte) []byte {
	l := append(make([]byte, 0, len(b)+8), b...)
	copy(l[len(b):cap(l)], "!!!!!!!!")
	return l
}

// used: were those bytes left as they were made? They are written over then, their spare room too.
func used(t *testing.T, l, was []byte) {
	t.Helper()
	if !bytes.Equal(l, was) || !bytes.Equal(l[len(l):len(l)+8], []byte("!!!!!!!!")) {
		t.Fatalf("what was handed in is %v, was %v", l, was)
	}
	l = l[:cap(l)]
	for i := range l {
		l[i] = '#'
	}
}

// hands: Send of bytes that are written over behind it.
func hands(t *testing.T, g *vsync.Group, m string) {
	t.Helper()
	l := roomy([]byte(m))
	if e := g.Send(l); e != api.OK {
		t.Fatalf("Send = %d", e)
	}
	used(t, l, []byte(m))
}

// passes: In of bytes that are written over behind it.
func passes(t *testing.T, g *vsync.Group, f api.Frame) {
	t.Helper()
	b := bytesOf(t, f)
	l := roomy(b)
	if e := g.In(l); e != api.OK {
		t.Fatalf("In(%v) = %d", f, e)
	}
	used(t, l, b)
}

// wipe writes over events, each message by itself, and over the list's spare room.
func wipe(t *testing.T, l []api.Event) {
	t.Helper()
	for i := range l {
		rest := fmt.Sprint(l[i+1:])
		m := l[i].M[:cap(l[i].M)]
		for k := range m {
			m[k] = '#'
		}
		l[i] = api.Event{}
		if fmt.Sprint(l[i+1:]) != rest {
			t.Fatalf("the event %d shares its message with a later one", i)
		}
	}
	clear(l[:cap(l)])
}

// wipePackets writes over packets, each by itself.
func wipePackets(t *testing.T, l []api.Packet) {
	t.Helper()
	for i := range l {
		rest := fmt.Sprint(l[i+1:])
		b := l[i].Bytes[:cap(l[i].Bytes)]
		for k := range b {
			b[k] = '#'
		}
		l[i] = api.Packet{}
		if fmt.Sprint(l[i+1:]) != rest {
			t.Fatalf("the packet %d shares its bytes with a later one", i)
		}
	}
	clear(l[:cap(l)])
}

// What the leader is handed isn't kept, and what it answers isn't shared with what it has.
func TestLeaderMemory(t *testing.T) {
	v := full(3)
	g := leads(t, config(3))
	hands(t, g, "ab")
	hands(t, g, "cd")
	hands(t, g, "ef")
	hands(t, g, "gh")
	passes(t, g, up(1, v.ID, 0, 0, "xy"))
	wipe(t, g.Events())
	g.Tick()
	wipePackets(t, g.Out())
	links(t, g, 0,
		out{1, down(0, v.ID, 0, 1, 0, item(0, "ab"), item(0, "cd"))},
		out{2, down(0, v.ID, 0, 0, 0, item(0, "ab"), item(0, "cd"))})
	passes(t, g, up(1, v.ID, 1, 2))
	passes(t, g, up(2, v.ID, 0, 2))
	happened(t, g, safe(v, 0, "ab"), safe(v, 0, "cd"), received(v, 0, "gh"), received(v, 1, "xy"))
	links(t, g, 0,
		out{1, down(0, v.ID, 2, 1, 2, item(0, "ef"), item(0, "gh"))},
		out{2, down(0, v.ID, 2, 0, 2, item(0, "ef"), item(0, "gh"))})
	// the events of all that is safe at once don't share, either
	passes(t, g, up(1, v.ID, 1, 3))
	passes(t, g, up(2, v.ID, 0, 3))
	wipe(t, g.Events())
	comes(t, g, propose(2, view(2, 2, 7)), api.OK)
	wipePackets(t, g.Out())
	comes(t, g, propose(2, view(3, 2, 7)), api.OK)
	sends(t, g, 0, out{2, accept(0, id(3, 2), state(v.ID, 3, item(0, "gh"), item(1, "xy")))})
}

// The same of another node.
func TestFollowerMemory(t *testing.T) {
	v := full(3)
	g := follows(t, config(3), 1)
	hands(t, g, "ab")
	hands(t, g, "cd")
	wipe(t, g.Events())
	g.Tick()
	wipePackets(t, g.Out())
	links(t, g, 1, out{0, up(1, v.ID, 0, 0, "ab", "cd")})
	passes(t, g, down(0, v.ID, 0, 0, 0, item(2, "xy"), item(2, "z")))
	wipe(t, g.Events())
	passes(t, g, down(0, v.ID, 1, 0, 1, item(2, "z"), item(1, "ab")))
	happened(t, g, safe(v, 2, "xy"), received(v, 1, "ab"))
	comes(t, g, propose(0, view(2, 0, 7)), api.OK)
	wipePackets(t, g.Out())
	comes(t, g, propose(0, view(2, 0, 7)), api.OK)
	sends(t, g, 1, out{0, accept(1, id(2, 0), state(v.ID, 1, item(2, "z"), item(1, "ab")))})
	l := roomy(bytesOf(t, commit(0, view(2, 0, 7), state(v.ID, 1, item(2, "z"), item(1, "ab"), item(0, "uv")))))
	if e := g.In(l); e != api.OK {
		t.Fatalf("In = %d", e)
	}
	used(t, l, bytes.Clone(l))
	happened(t, g, received(v, 0, "uv"), viewed(view(2, 0, 7)))
}

// One who is alone tells a message three times, each apart from the others.
func TestAloneMemory(t *testing.T) {
	g := groupOf(t, config(1), 0)
	g.Tick()
	g.Events()
	hands(t, g, "ab")
	hands(t, g, "cd")
	wipe(t, g.Events())
	hands(t, g, "ef")
	happened(t, g, sent(full(1), "ef"), received(full(1), 0, "ef"), safe(full(1), 0, "ef"))
}

// The states of a proposal aren't those of the frames that brought them.
func TestProposalMemory(t *testing.T) {
	g := groupOf(t, config(3), 0)
	for i := 1; i < 3; i++ {
		passes(t, g, beatOf(i, api.ViewID{}, api.ViewID{}))
	}
	g.Tick()
	wipePackets(t, g.Out())
	v := full(3)
	passes(t, g, accept(1, v.ID, state(id(1, 1), 0, item(1, "ab"))))
	passes(t, g, accept(2, v.ID, state(id(1, 2), 0, item(2, "cd"))))
	wipePackets(t, g.Out())
	g.Tick()
	f := commit(0, v, state(id(1, 1), 0, item(1, "ab")), state(id(1, 2), 0, item(2, "cd")))
	sends(t, g, 0, out{1, f}, out{2, f}, out{1, down(0, v.ID, 0, 0, 0)}, out{2, down(0, v.ID, 0, 0, 0)})
}
