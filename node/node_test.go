package node_test

import (
	"bytes"
	"fmt"
	"math"
	"strings"
	"testing"

	"folkmoot/api"
	"folkmoot/node"
)

// P18.1
func TestNew(t *testing.T) {
	for _, c := range []api.Config{
		{Nodes: 1, Beat: 1, Miss: 2, Window: 1, Ring: 1, Queue: 1},
		{Nodes: api.MaxNodes, Beat: api.MaxDelay - 1, Miss: api.MaxDelay, Window: api.MaxWindow, Ring: api.MaxRing, Queue: api.MaxRing},
	} {
		for self := range c.Nodes {
			n := nodeOf(t, c, self)
			has(t, n, api.View{}, false, 1<<self)
			if l := n.Out(); len(l) != 0 {
				t.Errorf("Out = %v", l)
			}
			sent(t, n, "")
			got(t, n, "")
			trace(t, n)
			knows(t, n, api.Summary{Next: 1})
		}
	}
}

// P18.1: the errors of Group and of Total.
func TestNewRefuses(t *testing.T) {
	wrong := []func(c *api.Config){
		func(c *api.Config) { c.Nodes = 0 },
		func(c *api.Config) { c.Nodes = api.MaxNodes + 1 },
		func(c *api.Config) { c.Beat = 0 },
		func(c *api.Config) { c.Miss = c.Beat },
		func(c *api.Config) { c.Window = api.MaxWindow + 1 },
		func(c *api.Config) { c.Ring = api.MaxRing + 1 },
		func(c *api.Config) { c.Queue = 0 },
		func(c *api.Config) { c.Queue = api.MaxRing + 1 },
		func(c *api.Config) { *c = api.Config{} },
	}
	for i, spoil := range wrong {
		c := config(3)
		spoil(&c)
		if n, e := node.New(c, 0); n != nil || e != api.ErrArg {
			t.Errorf("%d: New = %v, %d", i, n, e)
		}
	}
	for _, self := range []int{math.MinInt, -1, 3, math.MaxInt} {
		if n, e := node.New(config(3), self); n != nil || e != api.ErrArg {
			t.Errorf("New(.., %d) = %v, %d", self, n, e)
		}
	}
}

// P18.3, P1: of nothing there is nothing to be told.
func TestNil(t *testing.T) {
	var n *node.Node
	for _, m := range [][]byte{nil, {1}, make([]byte, api.MaxMsg+1), bytesOf(t, beatOf(1))} {
		want(t, "Bcast", n.Bcast(m), api.ErrNone)
		want(t, "In", n.In(m), api.ErrNone)
	}
	want(t, "Tick", n.Tick(), api.ErrNone)
	has(t, n, api.View{}, false, 0)
	if len(n.Out()) != 0 || len(n.Sent()) != 0 || len(n.Got()) != 0 || len(n.Trace()) != 0 {
		t.Error("nothing has something to tell")
	}
	knows(t, n, api.Summary{})
}

// P18.1, P7: Bcast's errors are Total's, and what it refuses isn't in Sent.
func TestBcast(t *testing.T) {
	most := strings.Repeat("x", api.MaxMsg)
	n := nodeOf(t, config(2), 1)
	bcast(t, n, most+"x", api.ErrLong)
	for _, m := range []string{most, "", "a", "a"} {
		bcast(t, n, m, api.OK)
	}
	bcast(t, n, "b", api.ErrBusy)
	bcast(t, n, most+"x", api.ErrLong)
	sent(t, n, most+"  a a")
	// without a view they wait for a label
	knows(t, n, api.Summary{Next: 1})
	trace(t, n)
	if l := n.Out(); len(l) != 0 {
		t.Errorf("Out = %v", l)
	}
}

// P18.1, P7: as many as a node may accept, in a view and out of it.
func TestBcastMostOwn(t *testing.T) {
	for _, first := range []int{0, 1, api.MaxOwn} {
		c := config(1)
		c.Queue = api.MaxRing
		n := nodeOf(t, c, 0)
		for i := range api.MaxOwn {
			if i == first {
				want(t, "Tick", n.Tick(), api.OK)
			}
			bcast(t, n, fmt.Sprint(i), api.OK)
		}
		bcast(t, n, "more", api.ErrBusy)
		want(t, "Tick", n.Tick(), api.OK)
		bcast(t, n, "more", api.ErrBusy)
		l, kept := n.Got(), n.Summary().Con
		if len(n.Sent()) != api.MaxOwn || len(l) != api.MaxOwn || len(kept) != api.MaxOwn {
			t.Fatalf("%d were accepted, %d delivered, %d kept", len(n.Sent()), len(l), len(kept))
		}
		for i, m := range n.Sent() {
			if string(m) != fmt.Sprint(i) || !bytes.Equal(m, l[i].M) || l[i].From != 0 || !bytes.Equal(m, kept[i].M) {
				t.Fatalf("at %d: %s is accepted, %v delivered, %v kept", i, m, l[i], kept[i])
			}
		}
	}
}

func beatOf(from int) api.Frame {
	return api.Frame{Kind: api.FBeat, From: from}
}
