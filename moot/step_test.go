package moot_test

import (
	"fmt"
	"math"
	"math/rand"
	"strings"
	"testing"

	"folkmoot/api"
	"folkmoot/moot"
	"folkmoot/net"
	"folkmoot/node"
)

// noNodes of so many.
func noNodes(n int) []int {
	return []int{math.MinInt, -1, n, api.MaxNodes, api.MaxNodes + 1, math.MaxInt}
}

// P20.1, P7: the node's Bcast, and its errors.
func TestBcast(t *testing.T) {
	m := mootOf(t, config(3))
	most := strings.Repeat("x", api.MaxMsg)
	do(t, m, saying(2, most))
	for _, i := range noNodes(3) {
		refuses(t, m, saying(i, "a"), api.ErrArg)
		refuses(t, m, saying(i, most+"x"), api.ErrArg)
	}
	refuses(t, m, saying(2, most+"x"), api.ErrLong)
	do(t, m, saying(2, ""))
	refuses(t, m, saying(2, "b"), api.ErrBusy)
	do(t, m, api.Step{Kind: api.SBcast, I: 0, K: 9, M: []byte("c")})
	same(t, "Sent of 2", fmt.Sprintf("%q", m.Node(2).Sent()), fmt.Sprintf("%q", []string{most, ""}))
	same(t, "Sent of 0", fmt.Sprintf("%q", m.Node(0).Sent()), `["c"]`)
	same(t, "Sent of 1", len(m.Node(1).Sent()), 0)
	same(t, "under way", m.Net().Len(), 0)
}

// P20.1, P7: a node accepts so many messages in all.
func TestMostOwn(t *testing.T) {
	c := config(1)
	c.Queue = api.MaxRing
	m := mootOf(t, c)
	for i := range api.MaxOwn {
		if i == 5 {
			do(t, m, calm(1))
		}
		do(t, m, saying(0, fmt.Sprint(i)))
	}
	refuses(t, m, saying(0, "more"), api.ErrBusy)
	same(t, "delivered", len(m.Node(0).Got()), api.MaxOwn)
}

// P20.1: the node's Tick; what it has to send is under way at once, in its order.
func TestTick(t *testing.T) {
	m := mootOf(t, config(3))
	do(t, m, step(api.STick, 2, 0))
	same(t, "under way", underWay(t, m), "beat 2>0, beat 2>1, ")
	same(t, "the view of 2", m.Node(2).View().Set, 4)
	do(t, m, api.Step{Kind: api.STick, I: 1, K: 7, M: []byte("no matter")})
	same(t, "under way", underWay(t, m), "beat 2>0, beat 2>1, beat 1>0, beat 1>2, ")
	for _, i := range noNodes(3) {
		refuses(t, m, step(api.STick, i, 0), api.ErrArg)
	}
	same(t, "Est of 0", m.Node(0).Est(), 1)
	same(t, "Trace of 0", len(m.Node(0).Trace()), 0)
}

// P20.1: what is under way comes to the node to whom it was sent; what that one has to send behind it is under way at once.
func TestDeliver(t *testing.T) {
	m := mootOf(t, config(3))
	do(t, m, step(api.STick, 2, 0), step(api.SDeliver, 1, 0))
	same(t, "under way", underWay(t, m), "beat 2>0, ")
	same(t, "Est of 1", m.Node(1).Est(), 6)
	same(t, "Est of 0", m.Node(0).Est(), 1)
	do(t, m, step(api.SDeliver, 0, 5), step(api.STick, 0, 0))
	same(t, "under way", underWay(t, m), "beat 0>1, beat 0>2, propose 0>2, ")
	// 2 has accepted a later view: that of its own
	does(t, m, step(api.SDeliver, 2, 0), api.ErrStale)
	same(t, "under way", underWay(t, m), "beat 0>1, beat 0>2, refuse 2>0, ")
	do(t, m, step(api.SDeliver, 2, 0), step(api.STick, 0, 0))
	same(t, "under way", underWay(t, m), "beat 0>1, beat 0>2, beat 0>1, beat 0>2, propose 0>2, ")
	do(t, m, step(api.SDeliver, 4, 0))
	same(t, "under way", underWay(t, m), "beat 0>1, beat 0>2, beat 0>1, beat 0>2, accept 2>0, ")
	do(t, m, step(api.SDeliver, 4, 0), step(api.SDeliver, 4, 0))
	same(t, "the view of 0", m.Node(0).View(), api.View{ID: api.ViewID{N: 2}, Set: 5})
	same(t, "the view of 2", m.Node(2).View(), m.Node(0).View())
	same(t, "under way", underWay(t, m), "beat 0>1, beat 0>2, beat 0>1, beat 0>2, ")
	for _, i := range []int{math.MinInt, -1, 4, api.MaxBag, math.MaxInt} {
		refuses(t, m, step(api.SDeliver, i, 0), api.ErrArg)
	}
}

// P20.1: what comes when they don't hear one another is lost.
func TestDeliverOfThoseWhoDontHear(t *testing.T) {
	m := mootOf(t, config(3))
	do(t, m, step(api.STick, 2, 0), step(api.SCut, 0, 2))
	was := fmt.Sprint(m.Node(0).Est(), m.Node(1).Est())
	does(t, m, step(api.SDeliver, 0, 0), api.ErrCut)
	same(t, "under way", underWay(t, m), "beat 2>1, ")
	same(t, "lost", m.Net().Lost(), 1)
	same(t, "Est", fmt.Sprint(m.Node(0).Est(), m.Node(1).Est()), was)
	do(t, m, step(api.SDeliver, 0, 0))
	same(t, "Est of 1", m.Node(1).Est(), 6)
}

// P20.1, P6: what is spoilt is refused by the node to which it comes, and does nothing.
func TestSpoilt(t *testing.T) {
	for bits := 1; bits <= net.Most; bits++ {
		m := mootOf(t, config(2))
		do(t, m, step(api.STick, 1, 0), step(api.STick, 0, 0), step(api.SDeliver, 0, 0), step(api.STick, 0, 0))
		same(t, "under way", underWay(t, m), "beat 0>1, beat 0>1, propose 0>1, ")
		was := fmt.Sprint(m.Node(1).Est(), m.Node(1).View(), m.Node(1).Open(), m.Node(1).Trace())
		for at := range 3 {
			p, _ := m.Net().Peek(at)
			for bit := range 8 * len(p.Bytes) {
				do(t, m, step(api.SDouble, at, 0))
				for k := range bits {
					do(t, m, step(api.STurn, 3, (bit+11*k)%(8*len(p.Bytes))))
				}
				does(t, m, step(api.SDeliver, 3, 0), api.ErrSum)
				same(t, "under way", m.Net().Len(), 3)
			}
		}
		same(t, "the node 1", fmt.Sprint(m.Node(1).Est(), m.Node(1).View(), m.Node(1).Open(), m.Node(1).Trace()), was)
	}
}

// P20.1: the net's Drop, Double and Turn.
func TestPlaces(t *testing.T) {
	m := mootOf(t, config(3))
	do(t, m, step(api.STick, 0, 0), step(api.STick, 1, 0))
	do(t, m, step(api.SDrop, 1, 9))
	same(t, "under way", underWay(t, m), "beat 0>1, beat 1>0, beat 1>2, ")
	same(t, "lost", m.Net().Lost(), 1)
	do(t, m, step(api.SDouble, 1, 9))
	same(t, "under way", underWay(t, m), "beat 0>1, beat 1>0, beat 1>2, beat 1>0, ")
	p, _ := m.Net().Peek(1)
	p.Bytes[2] ^= 1 << 3
	do(t, m, step(api.STurn, 1, 19))
	turned, _ := m.Net().Peek(1)
	same(t, "what was turned", turned, p)
	do(t, m, step(api.STurn, 1, 0))
	refuses(t, m, step(api.STurn, 1, 0), api.ErrState)
	for _, bit := range []int{math.MinInt, -1, 8 * len(p.Bytes), math.MaxInt} {
		refuses(t, m, step(api.STurn, 1, bit), api.ErrArg)
	}
	for _, kind := range []byte{api.SDrop, api.SDouble, api.STurn, api.SDeliver} {
		for _, i := range []int{math.MinInt, -1, 4, 5, math.MaxInt} {
			refuses(t, m, step(kind, i, 0), api.ErrArg)
		}
	}
}

// P20.1: who hears whom.
func TestCutAndJoin(t *testing.T) {
	m := mootOf(t, config(3))
	do(t, m, step(api.SCut, 2, 0))
	if m.Net().Hear(0, 2) || m.Net().Hear(2, 0) || !m.Net().Hear(0, 1) || !m.Net().Hear(2, 1) || m.Net().Class(2) != 0 {
		t.Error("Cut")
	}
	do(t, m, step(api.SCut, 2, 0), step(api.SCut, 1, 0))
	same(t, "Class", m.Net().Class(2), 6)
	do(t, m, step(api.SJoin, 0, 2), step(api.SJoin, 1, 0), step(api.SJoin, 1, 0))
	same(t, "Class", m.Net().Class(2), 7)
	for _, kind := range []byte{api.SCut, api.SJoin} {
		for i := range 3 {
			refuses(t, m, step(kind, i, i), api.ErrArg)
			for _, k := range noNodes(3) {
				refuses(t, m, step(kind, i, k), api.ErrArg)
				refuses(t, m, step(kind, k, i), api.ErrArg)
			}
		}
	}
}

// P20.1: in a tick of SCalm all tick, from 0 on, and then all that is under way comes, from the first on.
func TestCalm(t *testing.T) {
	for seed := range int64(12) {
		c := anyConfig(seed, 1+int(seed)%4)
		a, b := mootOf(t, c), mootOf(t, c)
		r := rand.New(rand.NewSource(seed))
		for range 8 {
			for range 30 {
				x := anyStep(r, a)
				does(t, b, x, a.Do(x))
			}
			ticks := r.Intn(4)
			do(t, a, api.Step{Kind: api.SCalm, I: ticks, K: r.Intn(9), M: []byte("no matter")})
			for range ticks {
				for i := range c.Nodes {
					do(t, b, step(api.STick, i, 0))
				}
				for b.Net().Len() > 0 {
					b.Do(step(api.SDeliver, 0, 0))
				}
			}
			same(t, fmt.Sprint("all of ", seed), all(a), all(b))
		}
	}
}

// P20.1
func TestCalmOfNoTicks(t *testing.T) {
	m := mootOf(t, config(3))
	do(t, m, step(api.STick, 1, 0))
	for _, n := range []int{math.MinInt, -1, api.MaxDelay + 1, 1 << 32, math.MaxInt} {
		refuses(t, m, calm(n), api.ErrArg)
	}
	refuses(t, m, calm(0), api.OK)
	same(t, "under way", underWay(t, m), "beat 1>0, beat 1>2, ")
	do(t, m, calm(1))
	same(t, "under way", underWay(t, m), "")
	do(t, m, calm(api.MaxDelay))
	same(t, "under way", underWay(t, m), "")
	same(t, "the view of 2", m.Node(2).View().Set, 7)
}

// P20.1: there are no other kinds of steps.
func TestNoSuchKind(t *testing.T) {
	m := mootOf(t, config(2))
	do(t, m, step(api.STick, 1, 0))
	for kind := int(api.SCalm) + 1; kind < 256; kind++ {
		refuses(t, m, api.Step{Kind: byte(kind), K: 1, M: []byte("a")}, api.ErrArg)
	}
}

// P20.1, P7: no more than so many are under way: what a node has to send beyond them is lost, and comes again.
func TestMaxBag(t *testing.T) {
	m := mootOf(t, config(3))
	do(t, m, saying(1, "a"), step(api.STick, 0, 0))
	for m.Net().Len() < api.MaxBag-1 {
		do(t, m, step(api.SDouble, m.Net().Len()%2, 0))
	}
	do(t, m, step(api.STick, 1, 0))
	same(t, "under way", m.Net().Len(), api.MaxBag)
	same(t, "lost", m.Net().Lost(), 1)
	if p, _ := m.Net().Peek(api.MaxBag - 1); p.From != 1 || p.To != 0 {
		t.Errorf("the last one is %v", p)
	}
	refusal := m.Do(step(api.SDouble, 0, 0))
	same(t, "Double", refusal, api.ErrBusy)
	same(t, "lost", m.Net().Lost(), 2)
	do(t, m, calm(40))
	for i := range 3 {
		same(t, "Got", got(m, i), "1a ")
	}
}

// plain is the words of P20.1 once more: nodes and a net, without a moot.
type plain struct {
	nodes []*node.Node
	net   *net.Net
}

func plainOf(t *testing.T, c api.Config) *plain {
	t.Helper()
	n, e := net.New(c.Nodes)
	same(t, "net.New", e, api.OK)
	p := &plain{net: n}
	for i := range c.Nodes {
		n, e := node.New(c, i)
		same(t, "node.New", e, api.OK)
		p.nodes = append(p.nodes, n)
	}
	return p
}

// send: what a node has to send.
func (p *plain) send(i int) {
	for _, x := range p.nodes[i].Out() {
		p.net.Put(x)
	}
}

func (p *plain) do(x api.Step) (e api.Errno) {
	if x.Kind <= api.STick && (x.I < 0 || x.I >= len(p.nodes)) {
		return api.ErrArg
	}
	switch x.Kind {
	case api.SBcast:
		e = p.nodes[x.I].Bcast(x.M)
		p.send(x.I)
	case api.STick:
		e = p.nodes[x.I].Tick()
		p.send(x.I)
	case api.SDeliver:
		var one api.Packet
		if one, e = p.net.Take(x.I); e == api.OK {
			e = p.nodes[one.To].In(one.Bytes)
			p.send(one.To)
		}
	case api.SDrop:
		e = p.net.Drop(x.I)
	case api.SDouble:
		e = p.net.Double(x.I)
	case api.STurn:
		e = p.net.Turn(x.I, x.K)
	case api.SCut:
		e = p.net.Cut(x.I, x.K)
	case api.SJoin:
		e = p.net.Join(x.I, x.K)
	default:
		e = api.ErrArg
	}
	return e
}

// anyStep: any step but SCalm, and now and then one that there isn't.
func anyStep(r *rand.Rand, m *moot.Moot) api.Step {
	nodes := 0
	for m.Node(nodes) != nil {
		nodes++
	}
	x := api.Step{I: r.Intn(nodes), K: r.Intn(nodes)}
	at := r.Intn(m.Net().Len() + 1)
	switch k := r.Intn(100); {
	case k < 25:
		x.Kind = api.STick
	case k < 30:
		x.Kind, x.M = api.SBcast, fmt.Append(nil, r.Intn(1000))
	case k < 32:
		x.Kind = api.SCut
	case k < 36:
		x.Kind = api.SJoin
	case k < 40:
		x.Kind, x.I = api.SDrop, at
	case k < 44:
		x.Kind, x.I = api.SDouble, at
	case k < 47:
		x.Kind, x.I, x.K = api.STurn, at, r.Intn(400)
	case k < 80:
		x.Kind, x.I = api.SDeliver, 0
	case k < 98:
		x.Kind, x.I = api.SDeliver, at
	case k < 99:
		x.Kind, x.I = byte(r.Intn(8)), r.Intn(40)-20
	default:
		x.Kind = byte(9 + r.Intn(247))
	}
	return x
}

// P20.1, P2: a moot does what its nodes and its net do, and no more.
func TestPlain(t *testing.T) {
	for seed := range int64(40) {
		c := anyConfig(seed, 1+int(seed)%6)
		m, p := mootOf(t, c), plainOf(t, c)
		r := rand.New(rand.NewSource(-seed))
		for range 600 {
			x := anyStep(r, m)
			does(t, m, x, p.do(x))
			same(t, "under way", m.Net().Len(), p.net.Len())
			same(t, "lost", m.Net().Lost(), p.net.Lost())
		}
		for i := range m.Net().Len() {
			a, _ := m.Net().Peek(i)
			b, _ := p.net.Peek(i)
			same(t, "Peek", a, b)
		}
		for i, n := range p.nodes {
			o := m.Node(i)
			same(t, "a node", fmt.Sprint(o.View(), o.Open(), o.Est(), o.Sent(), o.Got(), o.Trace(), o.Summary()), fmt.Sprint(n.View(), n.Open(), n.Est(), n.Sent(), n.Got(), n.Trace(), n.Summary()))
			same(t, "Class", m.Net().Class(i), p.net.Class(i))
		}
	}
}
