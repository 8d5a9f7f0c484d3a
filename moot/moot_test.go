package moot_test

import (
	"bytes"
	"fmt"
	"math"
	"testing"

	"folkmoot/api"
	"folkmoot/content"
	"folkmoot/frame"
	"folkmoot/moot"
)

// P20.1
func TestNew(t *testing.T) {
	for _, c := range []api.Config{
		{Nodes: 1, Beat: 1, Miss: 2, Window: 1, Ring: 1, Queue: 1},
		config(5),
		{Nodes: api.MaxNodes, Beat: api.MaxDelay - 1, Miss: api.MaxDelay, Window: api.MaxWindow, Ring: api.MaxRing, Queue: api.MaxRing},
	} {
		m := mootOf(t, c)
		for i := range c.Nodes {
			n := m.Node(i)
			if n == nil || n.View() != (api.View{}) || n.Open() || n.Est() != 1<<i || len(n.Trace()) != 0 {
				t.Fatalf("the node %d is %v", i, n)
			}
			for k := range i {
				if n == m.Node(k) {
					t.Fatalf("%d is %d", i, k)
				}
			}
			if m.Node(i) != n || m.Net().Class(i) != uint16(1<<c.Nodes-1) {
				t.Fatalf("Class(%d) = %b", i, m.Net().Class(i))
			}
		}
		for _, i := range []int{math.MinInt, -1, c.Nodes, api.MaxNodes, math.MaxInt} {
			if m.Node(i) != nil {
				t.Errorf("Node(%d) of %d", i, c.Nodes)
			}
		}
		if m.Net().Len() != 0 || m.Net().Lost() != 0 || m.Net() != m.Net() || m.Net().Hear(0, c.Nodes) {
			t.Errorf("Net = %v", m.Net())
		}
		order, ok := m.Total()
		if len(order) != 0 || !ok || !m.Views() {
			t.Errorf("Total = %v, %t, Views = %t", order, ok, m.Views())
		}
	}
}

// P20.1: the errors of net.New and of node.New.
func TestNewRefuses(t *testing.T) {
	wrong := []func(c *api.Config){
		func(c *api.Config) { *c = api.Config{} },
		func(c *api.Config) { c.Nodes = 0 },
		func(c *api.Config) { c.Nodes = -1 },
		func(c *api.Config) { c.Nodes = api.MaxNodes + 1 },
		func(c *api.Config) { c.Nodes = math.MinInt },
		func(c *api.Config) { c.Beat = 0 },
		func(c *api.Config) { c.Miss = c.Beat },
		func(c *api.Config) { c.Miss = api.MaxDelay + 1 },
		func(c *api.Config) { c.Window = 0 },
		func(c *api.Config) { c.Window = api.MaxWindow + 1 },
		func(c *api.Config) { c.Ring = 0 },
		func(c *api.Config) { c.Ring = api.MaxRing + 1 },
		func(c *api.Config) { c.Queue = 0 },
		func(c *api.Config) { c.Queue = api.MaxRing + 1 },
	}
	for i, spoil := range wrong {
		c := config(3)
		spoil(&c)
		if m, e := moot.New(c); m != nil || e != api.ErrArg {
			t.Errorf("%d: New = %v, %d", i, m, e)
		}
	}
}

// P20.1, P1: of no moot there is nothing to be told.
func TestNil(t *testing.T) {
	var m *moot.Moot
	for kind := range 256 {
		for _, i := range []int{-1, 0, 1, api.MaxDelay + 1} {
			does(t, m, api.Step{Kind: byte(kind), I: i, K: i, M: make([]byte, 65)}, api.ErrNone)
		}
	}
	order, ok := m.Total()
	if m.Node(0) != nil || m.Net() != nil || order != nil || ok || m.Views() {
		t.Errorf("Node = %v, Net = %v, Total = %v, %t, Views = %t", m.Node(0), m.Net(), order, ok, m.Views())
	}
}

// P20.3, P20.4: how long it takes.
func TestTimes(t *testing.T) {
	for _, x := range []struct{ beat, miss, settle int }{{1, 2, 9}, {1, 3, 10}, {2, 3, 11}, {7, 30, 43}, {999, 1000, 2005}, {0, 0, 6}} {
		if n := moot.Settle(api.Config{Beat: x.beat, Miss: x.miss, Nodes: 9, Window: 5}); n != x.settle {
			t.Errorf("Settle of %d, %d = %d", x.beat, x.miss, n)
		}
	}
	for _, x := range []struct{ nodes, messages, rest int }{{1, 0, 24}, {3, 1, 36}, {5, 7, 68}, {16, 1024, 4180}, {0, 0, 20}} {
		if n := moot.Rest(api.Config{Nodes: x.nodes, Beat: 8, Miss: 9}, x.messages); n != x.rest {
			t.Errorf("Rest of %d, %d = %d", x.nodes, x.messages, n)
		}
	}
}

// P20.2 to P20.4: the chapter's example.
func TestExample(t *testing.T) {
	m := mootOf(t, config(3))
	do(t, m, saying(0, "a"), calm(40))
	for i := range 3 {
		same(t, "Got", got(m, i), "0a ")
	}
	order, ok := m.Total()
	if len(order) != 1 || order[0].From != 0 || string(order[0].M) != "a" || !ok {
		t.Errorf("Total = %v, %t", order, ok)
	}
	if !m.Views() {
		t.Error("Views = false")
	}
}

// forged puts a frame that nobody has sent into the net, from which it comes.
func forged(t *testing.T, m *moot.Moot, to int, f api.Frame) {
	t.Helper()
	b, e := frame.Encode(f)
	if e != api.OK {
		t.Fatalf("Encode of %v = %d", f, e)
	}
	m.Net().Put(api.Packet{From: f.From, To: to, Bytes: b})
	do(t, m, step(api.SDeliver, m.Net().Len()-1, 0))
}

// deceived: two nodes, of whom the second believes that the first one leads a view, and has put these messages into its order, all of which are safe.
func deceived(t *testing.T, l ...api.Item) *moot.Moot {
	t.Helper()
	m := mootOf(t, config(2))
	id := api.ViewID{N: 1}
	forged(t, m, 1, api.Frame{Kind: api.FPropose, ID: id, Set: 3})
	forged(t, m, 1, api.Frame{Kind: api.FCommit, ID: id, Set: 3})
	forged(t, m, 1, api.Frame{Kind: api.FDown, ID: id, Ack: 1, Safe: uint64(len(l)), Items: l})
	return m
}

// P20.1: Views is judge's: it is false where nodes were told what no node of a group tells.
func TestWrongViews(t *testing.T) {
	if m := deceived(t); !m.Views() {
		t.Error("a view that the other one doesn't have yet")
	}
	m := deceived(t, api.Item{From: 0, M: []byte("x")})
	if m.Views() {
		t.Errorf("what nobody sent is received in %v", m.Node(1).Trace())
	}
	order, ok := m.Total()
	if len(order) != 0 || !ok {
		t.Errorf("Total = %v, %t, but nothing is delivered", order, ok)
	}
}

// P20.1: Total is judge's: it is false where a node delivers what no node has accepted.
func TestWrongTotal(t *testing.T) {
	none, _ := content.EncodeAll(api.Summary{Next: 1})
	x, _ := content.EncodeOne(api.Entry{L: api.Label{V: api.ViewID{N: 1}, Seq: 1}, M: []byte("x")})
	m := deceived(t, api.Item{From: 0, M: none}, api.Item{From: 1, M: none}, api.Item{From: 0, M: x})
	same(t, "Got", got(m, 1), "0x ")
	if order, ok := m.Total(); order != nil || ok {
		t.Errorf("Total = %v, %t", order, ok)
	}
	// the first one accepts another message
	do(t, m, saying(0, "y"))
	if order, ok := m.Total(); order != nil || ok {
		t.Errorf("Total = %v, %t", order, ok)
	}
	// the one that was delivered
	m = deceived(t, api.Item{From: 0, M: none}, api.Item{From: 1, M: none}, api.Item{From: 0, M: x})
	do(t, m, saying(0, "x"))
	if order, ok := m.Total(); len(order) != 1 || !ok {
		t.Errorf("Total = %v, %t", order, ok)
	}
}

// The rule 'Memory': what is handed in isn't changed and isn't kept, and what is answered isn't shared.
func TestMemory(t *testing.T) {
	m := mootOf(t, config(2))
	for i, text := range []string{"ab", "cde"} {
		room := []byte(text + "rest")
		do(t, m, api.Step{Kind: api.SBcast, I: i, M: room[:len(text)]})
		same(t, "what was handed in", string(room), text+"rest")
		copy(room, "#########")
	}
	do(t, m, calm(40))
	order, _ := m.Total()
	same(t, "how many", len(order), 2)
	was := fmt.Sprint(order)
	for i := range order {
		rest := fmt.Sprint(order[i+1:])
		b := order[i].M
		copy(b[:cap(b)], bytes.Repeat([]byte("#"), cap(b)))
		same(t, "what is behind it", fmt.Sprint(order[i+1:]), rest)
	}
	clear(order[:cap(order)])
	order, _ = m.Total()
	same(t, "Total", order, was)
	for i := range 2 {
		same(t, "Got", fmt.Sprint(m.Node(i).Got()), was)
	}
}
