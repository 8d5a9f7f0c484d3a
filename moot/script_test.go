package moot_test

import (
	"fmt"
	"testing"

	"folkmoot/api"
	"folkmoot/moot"
)

// P20.2 to P20.4, P3 to P5: whatever has happened, it is one order; and when it is calm, all settle, and deliver all, in time.
func TestScripts(t *testing.T) {
	t.Parallel()
	all := 0
	for seed := range int64(160) {
		n := 1 + int(seed)%7
		if seed%20 == 0 {
			n = 8 + int(seed/20)
		}
		w := worldOf(t, seed, anyConfig(-seed, n))
		for range 1 + w.r.Intn(4) {
			for range 1 + w.r.Intn(4) {
				if w.r.Intn(2) == 0 {
					w.storm(w.r.Intn(500))
				} else {
					w.malice(w.r.Intn(60))
				}
				w.ordered()
			}
			if w.r.Intn(2) == 0 {
				w.part(1 + w.r.Intn(3))
			}
			if w.r.Intn(8) == 0 {
				w.fill()
			}
			w.settles()
			w.stays(w.r.Intn(8))
			if w.r.Intn(2) == 0 {
				w.rests()
			}
			w.ordered()
		}
		all += len(w.ordered())
	}
	if all < 1500 {
		t.Errorf("only %d messages were delivered", all)
	}
}

// P20.3, P20.4: nodes that beat as seldom as may be settle in time, too, and no earlier view than that of the class stays.
func TestSlow(t *testing.T) {
	for seed, c := range []api.Config{
		{Nodes: 3, Beat: api.MaxDelay - 1, Miss: api.MaxDelay, Window: 1, Ring: 1, Queue: 4},
		{Nodes: 4, Beat: 1, Miss: api.MaxDelay, Window: 1, Ring: 1, Queue: 4},
		{Nodes: 5, Beat: 300, Miss: 700, Window: 2, Ring: 1, Queue: 4},
	} {
		w := worldOf(t, int64(seed), c)
		for _, many := range []int{1, 2, 3, 1} {
			for range 200 {
				w.do(api.STick, w.any(), 0)
				w.do(api.SDeliver, 0, 0)
			}
			w.say()
			w.part(many)
			w.settles()
			w.stays(3)
			w.rests()
		}
		if l := w.ordered(); len(l) != w.count {
			t.Errorf("%v: of %d messages %d are delivered", c, w.count, len(l))
		}
	}
}

// P20.3, P20.4, P7: as many are under way as may be, so that of what nodes send in the first calm tick all is lost.
func TestFullNet(t *testing.T) {
	for seed := range int64(12) {
		w := worldOf(t, seed, anyConfig(-seed, 2+int(seed)))
		for range 3 {
			w.malice(30)
			w.part(2)
			w.storm(100)
			w.part(1 + w.r.Intn(2))
			w.do(api.STick, w.any(), 0)
			w.fill()
			w.settles()
			w.rests()
			w.ordered()
		}
	}
}

// P20.2 to P20.4, P7: as many nodes as there may be, with as many and as long messages as they may accept, and as little room as there may be, or as much.
func TestAll(t *testing.T) {
	for _, room := range []int{1, 16, api.MaxRing} {
		t.Run(fmt.Sprint(room), func(t *testing.T) {
			t.Parallel()
			deliversAll(t, room)
		})
	}
}

func deliversAll(t *testing.T, room int) {
	c := api.Config{Nodes: api.MaxNodes, Beat: 1, Miss: 3, Window: min(room, api.MaxWindow), Ring: room, Queue: room}
	w := worldOf(t, int64(room), c)
	w.settles()
	for k := range api.MaxOwn {
		for i := range c.Nodes {
			do(t, w.m, saying(i, fmt.Sprintf("%*d", api.MaxMsg, k)))
		}
		if k == api.MaxOwn/2 {
			w.calm(1)
		}
	}
	for range 3 {
		w.part(2)
		w.settles()
	}
	w.ordered()
	w.part(1)
	w.settles()
	w.rests()
	if l := w.ordered(); len(l) != api.MaxNodes*api.MaxOwn {
		t.Fatalf("%d are delivered", len(l))
	}
}

// P20.4: two parts: the one that has most of the nodes delivers, the other one doesn't; when they hear one another again, all have all.
func TestParts(t *testing.T) {
	m := mootOf(t, config(5))
	part := func(kind byte) {
		for i := range 2 {
			for k := 2; k < 5; k++ {
				do(t, m, step(kind, i, k))
			}
		}
		do(t, m, calm(moot.Settle(config(5))))
	}
	do(t, m, saying(1, "a"), calm(40))
	part(api.SCut)
	do(t, m, saying(0, "b"), saying(4, "c"), calm(60))
	for i, want := range []string{"1a ", "1a ", "1a 4c ", "1a 4c ", "1a 4c "} {
		same(t, "Got", got(m, i), want)
	}
	part(api.SJoin)
	do(t, m, calm(moot.Rest(config(5), 3)))
	for i := range 5 {
		same(t, "Got", got(m, i), "1a 4c 0b ")
	}
	order, ok := m.Total()
	if len(order) != 3 || !ok || !m.Views() {
		t.Errorf("Total = %v, %t, Views = %t", order, ok, m.Views())
	}
}

// P20.4: half of the nodes aren't most of them.
func TestHalf(t *testing.T) {
	m := mootOf(t, config(4))
	for i := range 2 {
		do(t, m, step(api.SCut, i, 2), step(api.SCut, i, 3))
	}
	do(t, m, saying(0, "a"), saying(3, "b"), calm(100))
	for i := range 4 {
		same(t, "Got", got(m, i), "")
		same(t, "the set", m.Node(i).View().Set, []uint16{3, 3, 12, 12}[i])
	}
}

// P20.3: what is promised is of classes alone: of those who don't all hear the same others settle as if these weren't there.
func TestNoClass(t *testing.T) {
	for seed := range int64(20) {
		w := worldOf(t, seed, anyConfig(-seed, 6))
		w.storm(300)
		w.part(1)
		for i := range 3 {
			for k := 3; k < 6; k++ {
				w.do(api.SCut, i, k)
			}
		}
		w.do(api.SCut, 3, 5)
		same(t, "Class", fmt.Sprint(w.m.Net().Class(2), w.m.Net().Class(3), w.m.Net().Class(4)), "7 0 0")
		w.settles()
		w.stays(10)
		w.rests()
		w.ordered()
	}
}

// P2: the same script is answered in the same way.
func TestSameAgain(t *testing.T) {
	for seed := range int64(10) {
		var texts [2]string
		for k := range texts {
			w := worldOf(t, seed, anyConfig(-seed, 4))
			w.storm(800)
			w.malice(30)
			w.settles()
			w.storm(100)
			texts[k] = all(w.m)
		}
		same(t, "the second time", texts[1], texts[0])
	}
}
