package net_test

import (
	"bytes"
	"math"
	"math/rand"
	"slices"
	"testing"

	"folkmoot/api"
	"folkmoot/code"
	"folkmoot/frame"
	"folkmoot/net"
)

func newNet(t *testing.T, nodes int) *net.Net {
	t.Helper()
	n, e := net.New(nodes)
	if e != api.OK || n == nil {
		t.Fatalf("New(%d) = %v, %d", nodes, n, e)
	}
	return n
}

func pack(from, to int, text string) api.Packet {
	return api.Packet{From: from, To: to, Bytes: []byte(text)}
}

func put(t *testing.T, n *net.Net, from, to int, text string) {
	t.Helper()
	if e := n.Put(pack(from, to, text)); e != api.OK {
		t.Fatalf("Put(%d, %d, %q) = %d", from, to, text, e)
	}
}

func same(a, b api.Packet) bool {
	return a.From == b.From && a.To == b.To && bytes.Equal(a.Bytes, b.Bytes)
}

// nothing: the packet beside an error.
func nothing(p api.Packet) bool {
	return same(p, api.Packet{})
}

func wantError(t *testing.T, what string, e, want api.Errno) {
	t.Helper()
	if e != want {
		t.Errorf("%s = %d, not %d", what, e, want)
	}
}

// wantBag: what is under way, by Len and Peek, and how many were lost.
func wantBag(t *testing.T, n *net.Net, lost int, want ...api.Packet) {
	t.Helper()
	if n.Len() != len(want) || n.Lost() != lost {
		t.Fatalf("%d under way, %d lost, not %d, %d", n.Len(), n.Lost(), len(want), lost)
	}
	for i, w := range want {
		if p, e := n.Peek(i); e != api.OK || !same(p, w) {
			t.Errorf("Peek(%d) = %v, %d, not %v", i, p, e, w)
		}
	}
}

// noPlaces: places at which nothing is, if so many are under way.
func noPlaces(size int) []int {
	return []int{-1, size, size + 1, api.MaxBag, api.MaxBag + 1, math.MinInt, math.MaxInt}
}

// P8.1
func TestNew(t *testing.T) {
	for _, nodes := range []int{1, 2, 15, api.MaxNodes} {
		n := newNet(t, nodes)
		wantBag(t, n, 0)
		for a := range nodes {
			for b := range nodes {
				if !n.Hear(a, b) {
					t.Errorf("%d nodes: Hear(%d, %d) = false", nodes, a, b)
				}
			}
			if all := uint16(1<<nodes - 1); n.Class(a) != all {
				t.Errorf("%d nodes: Class(%d) = %b", nodes, a, n.Class(a))
			}
		}
	}
	for _, nodes := range []int{0, -1, api.MaxNodes + 1, 32, 64, math.MinInt, math.MaxInt} {
		if n, e := net.New(nodes); e != api.ErrArg || n != nil {
			t.Errorf("New(%d) = %v, %d", nodes, n, e)
		}
	}
}

// P8.1: packets stand in the order in which they were put, those of a node to itself too.
func TestPutAndTake(t *testing.T) {
	n := newNet(t, 3)
	put(t, n, 0, 1, "a")
	put(t, n, 2, 2, "b")
	put(t, n, 1, 0, "")
	put(t, n, 0, 1, "c")
	wantBag(t, n, 0, pack(0, 1, "a"), pack(2, 2, "b"), pack(1, 0, ""), pack(0, 1, "c"))
	if p, e := n.Take(1); e != api.OK || !same(p, pack(2, 2, "b")) {
		t.Errorf("Take = %v, %d", p, e)
	}
	wantBag(t, n, 0, pack(0, 1, "a"), pack(1, 0, ""), pack(0, 1, "c"))
	if p, e := n.Take(2); e != api.OK || !same(p, pack(0, 1, "c")) {
		t.Errorf("Take = %v, %d", p, e)
	}
	put(t, n, 2, 0, "d")
	wantBag(t, n, 0, pack(0, 1, "a"), pack(1, 0, ""), pack(2, 0, "d"))
}

// P8.1
func TestPutOfNoNode(t *testing.T) {
	n := newNet(t, 3)
	for _, i := range []int{-1, 3, api.MaxNodes, 64, math.MinInt, math.MaxInt} {
		wantError(t, "Put from no node", n.Put(pack(i, 0, "a")), api.ErrArg)
		wantError(t, "Put to no node", n.Put(pack(0, i, "a")), api.ErrArg)
		wantError(t, "Put from and to no node", n.Put(pack(i, i, "a")), api.ErrArg)
	}
	wantBag(t, n, 0)
}

// P8.1, P7: at most MaxBag are under way; what is put or doubled beyond is lost, but for what could not be put at all.
func TestMaxBag(t *testing.T) {
	n := newNet(t, 2)
	for i := range api.MaxBag {
		if e := n.Put(api.Packet{From: 1, Bytes: []byte{byte(i), byte(i >> 8)}}); e != api.OK {
			t.Fatalf("Put %d = %d", i, e)
		}
	}
	wantError(t, "Put beyond MaxBag", n.Put(pack(0, 1, "x")), api.ErrBusy)
	wantError(t, "Double beyond MaxBag", n.Double(7), api.ErrBusy)
	if n.Len() != api.MaxBag || n.Lost() != 2 {
		t.Errorf("%d under way, %d lost", n.Len(), n.Lost())
	}
	wantError(t, "Put of no node", n.Put(pack(0, 2, "x")), api.ErrArg)
	wantError(t, "Double at no place", n.Double(api.MaxBag), api.ErrArg)
	if n.Len() != api.MaxBag || n.Lost() != 2 {
		t.Errorf("behind ErrArg: %d under way, %d lost", n.Len(), n.Lost())
	}
	for i := range api.MaxBag {
		if p, e := n.Peek(i); e != api.OK || !same(p, api.Packet{From: 1, Bytes: []byte{byte(i), byte(i >> 8)}}) {
			t.Fatalf("Peek(%d) = %v, %d", i, p, e)
		}
	}
	wantError(t, "Drop", n.Drop(0), api.OK)
	wantError(t, "Double where there is room", n.Double(0), api.OK)
	if n.Len() != api.MaxBag || n.Lost() != 3 {
		t.Errorf("at the end: %d under way, %d lost", n.Len(), n.Lost())
	}
}

// P8.1
func TestTakeOfThoseWhoDontHear(t *testing.T) {
	n := newNet(t, 3)
	n.Cut(0, 1)
	put(t, n, 0, 1, "a") // what is cut off is known only when it is to come
	put(t, n, 1, 0, "b")
	put(t, n, 1, 2, "c")
	put(t, n, 1, 1, "d")
	put(t, n, 0, 1, "e")
	for i := range 2 {
		if p, e := n.Take(0); e != api.ErrCut || !nothing(p) || n.Lost() != i+1 {
			t.Errorf("Take = %v, %d, %d lost", p, e, n.Lost())
		}
	}
	wantBag(t, n, 2, pack(1, 2, "c"), pack(1, 1, "d"), pack(0, 1, "e"))
	n.Join(1, 0)
	for _, want := range []api.Packet{pack(1, 2, "c"), pack(1, 1, "d"), pack(0, 1, "e")} {
		if p, e := n.Take(0); e != api.OK || !same(p, want) {
			t.Errorf("Take = %v, %d, not %v", p, e, want)
		}
	}
	wantBag(t, n, 2)
}

// P8.1
func TestDrop(t *testing.T) {
	n := newNet(t, 3)
	put(t, n, 0, 1, "a")
	put(t, n, 0, 2, "b")
	put(t, n, 1, 2, "c")
	n.Cut(0, 2)
	wantError(t, "Drop", n.Drop(1), api.OK) // whether they hear one another or not
	wantBag(t, n, 1, pack(0, 1, "a"), pack(1, 2, "c"))
	wantError(t, "Drop", n.Drop(1), api.OK)
	wantBag(t, n, 2, pack(0, 1, "a"))
	wantError(t, "Drop", n.Drop(0), api.OK)
	wantBag(t, n, 3)
}

// P8.1
func TestDouble(t *testing.T) {
	n := newNet(t, 3)
	put(t, n, 0, 1, "a")
	put(t, n, 2, 1, "b")
	n.Cut(0, 1)
	wantError(t, "Double", n.Double(0), api.OK)
	wantBag(t, n, 0, pack(0, 1, "a"), pack(2, 1, "b"), pack(0, 1, "a"))
	wantError(t, "Drop", n.Drop(0), api.OK)
	wantError(t, "Double of a double", n.Double(1), api.OK)
	wantBag(t, n, 1, pack(2, 1, "b"), pack(0, 1, "a"), pack(0, 1, "a"))
}

// P8.1: each bit of some bytes is turned, and no other one.
func TestTurn(t *testing.T) {
	for bit := range 24 {
		n := newNet(t, 2)
		put(t, n, 0, 1, "abc")
		put(t, n, 0, 1, "abc")
		want := pack(0, 1, "abc")
		want.Bytes[bit/8] ^= 1 << (bit % 8)
		wantError(t, "Turn", n.Turn(0, bit), api.OK)
		wantBag(t, n, 0, want, pack(0, 1, "abc"))
	}
}

// P8.1: where there is no such bit ErrArg goes first, and nothing is turned.
func TestTurnOfNoBit(t *testing.T) {
	n := newNet(t, 2)
	put(t, n, 0, 1, "ab")
	put(t, n, 0, 1, "")
	for turns := range net.Most + 1 {
		for _, bit := range []int{-1, -7, -8, -9, 16, 17, 23, 24, math.MinInt, math.MaxInt} {
			wantError(t, "Turn of no bit", n.Turn(0, bit), api.ErrArg)
		}
		wantError(t, "Turn of no byte", n.Turn(1, 0), api.ErrArg)
		if turns < net.Most {
			wantError(t, "Turn", n.Turn(0, 15-turns), api.OK)
		}
	}
	wantBag(t, n, 0, pack(0, 1, "a\xa2"), pack(0, 1, ""))
}

// P8.1: at most Most bits are turned.
func TestMost(t *testing.T) {
	if net.Most != 2 {
		t.Errorf("Most = %d", net.Most)
	}
	n := newNet(t, 2)
	put(t, n, 0, 1, "a")
	put(t, n, 0, 1, "a")
	wantError(t, "the first bit", n.Turn(0, 0), api.OK)
	wantError(t, "the second bit", n.Turn(0, 7), api.OK)
	wantError(t, "the third bit", n.Turn(0, 1), api.ErrState)
	wantError(t, "a bit once more", n.Turn(0, 0), api.ErrState)
	wantBag(t, n, 0, pack(0, 1, "\xe0"), pack(0, 1, "a"))
	wantError(t, "another packet's", n.Turn(1, 0), api.OK)
	wantError(t, "its bit back", n.Turn(1, 0), api.OK)
	wantBag(t, n, 0, pack(0, 1, "\xe0"), pack(0, 1, "a"))
	wantError(t, "it a third time", n.Turn(1, 0), api.ErrState)
}

// P8.1: a double has the turned bits of those of which it is one; what is turned behind that is of one alone.
func TestTurnsOfDoubles(t *testing.T) {
	n := newNet(t, 2)
	put(t, n, 0, 1, "@")
	n.Turn(0, 0)
	n.Double(0)
	wantError(t, "the double's second bit", n.Turn(1, 1), api.OK)
	wantError(t, "the double's third bit", n.Turn(1, 2), api.ErrState)
	wantBag(t, n, 0, pack(0, 1, "A"), pack(0, 1, "C"))
	n.Double(1)
	n.Drop(1)
	wantError(t, "the double's double's third bit", n.Turn(1, 2), api.ErrState)
	wantError(t, "the first one's second bit", n.Turn(0, 2), api.OK)
	wantError(t, "the first one's third bit", n.Turn(0, 3), api.ErrState)
	wantBag(t, n, 1, pack(0, 1, "E"), pack(0, 1, "C"))
}

// P8.1, P6: a frame of which bits were turned is found by its sum.
func TestTurnsAreFound(t *testing.T) {
	p, _ := frame.Encode(api.Frame{Kind: api.FBeat, From: 1})
	for a := range 8 * len(p) {
		for b := range a {
			n := newNet(t, 2)
			n.Put(api.Packet{From: 1, Bytes: p})
			n.Turn(0, a)
			n.Turn(0, b)
			n.Double(0)
			n.Turn(1, 0)
			got, _ := n.Take(1)
			if _, e := code.Open(got.Bytes); e != api.ErrSum {
				t.Fatalf("bits %d, %d turned: %d", a, b, e)
			}
		}
	}
}

// P8.1: where there is no such place nothing is done.
func TestNoSuchPlace(t *testing.T) {
	n := newNet(t, 2)
	for size := range 3 {
		for _, i := range noPlaces(size) {
			if p, e := n.Peek(i); e != api.ErrArg || !nothing(p) {
				t.Errorf("Peek(%d) = %v, %d", i, p, e)
			}
			if p, e := n.Take(i); e != api.ErrArg || !nothing(p) {
				t.Errorf("Take(%d) = %v, %d", i, p, e)
			}
			wantError(t, "Drop", n.Drop(i), api.ErrArg)
			wantError(t, "Double", n.Double(i), api.ErrArg)
			wantError(t, "Turn", n.Turn(i, 0), api.ErrArg)
		}
		if n.Len() != size || n.Lost() != 0 {
			t.Errorf("%d under way, %d lost", n.Len(), n.Lost())
		}
		put(t, n, 0, 1, "a")
	}
}

// P8.2
func TestCutAndJoin(t *testing.T) {
	n := newNet(t, 4)
	wantError(t, "Cut", n.Cut(3, 1), api.OK)
	for range 2 { // the second time nothing changes
		for a := range 4 {
			for b := range 4 {
				if want := a+b != 4 || a == b; n.Hear(a, b) != want {
					t.Errorf("Hear(%d, %d) = %v", a, b, n.Hear(a, b))
				}
			}
		}
		wantError(t, "Cut", n.Cut(1, 3), api.OK)
	}
	for range 2 {
		wantError(t, "Join", n.Join(1, 3), api.OK)
		if !n.Hear(1, 3) || !n.Hear(3, 1) {
			t.Errorf("Hear behind Join: %v, %v", n.Hear(1, 3), n.Hear(3, 1))
		}
	}
}

// P8.2
func TestHearersThatAreNone(t *testing.T) {
	n := newNet(t, 3)
	for _, i := range []int{-1, 3, 4, api.MaxNodes, 64, math.MinInt, math.MaxInt} {
		for _, k := range []int{0, 2, i} {
			wantError(t, "Cut", n.Cut(i, k), api.ErrArg)
			wantError(t, "Cut", n.Cut(k, i), api.ErrArg)
			wantError(t, "Join", n.Join(i, k), api.ErrArg)
			wantError(t, "Join", n.Join(k, i), api.ErrArg)
			if n.Hear(i, k) || n.Hear(k, i) {
				t.Errorf("Hear(%d, %d) = %v, the other way %v", i, k, n.Hear(i, k), n.Hear(k, i))
			}
		}
		if n.Class(i) != 0 {
			t.Errorf("Class(%d) = %b", i, n.Class(i))
		}
	}
	for i := range 3 {
		wantError(t, "Cut of one", n.Cut(i, i), api.ErrArg)
		wantError(t, "Join of one", n.Join(i, i), api.ErrArg)
		if !n.Hear(i, i) || n.Class(i) != 7 {
			t.Errorf("Hear(%d, %d) = %v, Class %b", i, i, n.Hear(i, i), n.Class(i))
		}
	}
}

// P8.2, the chapter's example and some more.
func TestClass(t *testing.T) {
	n := newNet(t, 3)
	want := func(sets ...uint16) {
		t.Helper()
		for i, s := range sets {
			if n.Class(i) != s {
				t.Errorf("Class(%d) = %b, not %b", i, n.Class(i), s)
			}
		}
	}
	n.Cut(0, 1)
	want(0, 0, 0)
	n.Cut(0, 2)
	want(1, 6, 6)
	n.Cut(1, 2)
	want(1, 2, 4)
	n.Join(2, 0)
	want(5, 2, 5)
	n.Join(2, 1)
	want(0, 0, 0)
	n.Join(1, 0)
	want(7, 7, 7)
}

// P8.2: of 16 nodes, in two classes, then in all that the words say.
func TestClassOfMaxNodes(t *testing.T) {
	n := newNet(t, api.MaxNodes)
	for a := range api.MaxNodes {
		for b := range a {
			if a%2 != b%2 {
				n.Cut(a, b)
			}
		}
	}
	for i := range api.MaxNodes {
		if want := uint16(0x5555) << (i % 2); n.Class(i) != want {
			t.Errorf("Class(%d) = %x", i, n.Class(i))
		}
	}
	n.Join(15, 14)
	for i := range api.MaxNodes {
		if n.Class(i) != 0 {
			t.Errorf("Class(%d) = %x", i, n.Class(i))
		}
	}
}

// P8.2, P1
func TestNil(t *testing.T) {
	var n *net.Net
	wantError(t, "Put", n.Put(pack(0, -1, "a")), api.ErrNone)
	for _, i := range []int{-1, 0, 1} {
		if p, e := n.Peek(i); e != api.ErrNone || !nothing(p) {
			t.Errorf("Peek = %v, %d", p, e)
		}
		if p, e := n.Take(i); e != api.ErrNone || !nothing(p) {
			t.Errorf("Take = %v, %d", p, e)
		}
		wantError(t, "Drop", n.Drop(i), api.ErrNone)
		wantError(t, "Double", n.Double(i), api.ErrNone)
		wantError(t, "Turn", n.Turn(i, i), api.ErrNone)
		wantError(t, "Cut", n.Cut(i, 0), api.ErrNone)
		wantError(t, "Join", n.Join(i, 0), api.ErrNone)
		if n.Hear(i, i) || n.Class(i) != 0 {
			t.Errorf("Hear = %v, Class = %b", n.Hear(i, i), n.Class(i))
		}
	}
	if n.Len() != 0 || n.Lost() != 0 {
		t.Errorf("%d under way, %d lost", n.Len(), n.Lost())
	}
}

// scrub writes over bytes and over their spare room.
func scrub(b []byte) {
	b = b[:cap(b)]
	for i := range b {
		b[i] = '#'
	}
}

// The rule 'Memory' at P8.1: a packet that is handed in is neither kept nor changed.
func TestPutKeepsNoArgument(t *testing.T) {
	n := newNet(t, 2)
	b := append(make([]byte, 0, 8), "abc"...)
	n.Put(api.Packet{To: 1, Bytes: b})
	n.Turn(0, 0)
	if got := b[:8]; !bytes.Equal(got, []byte("abc\x00\x00\x00\x00\x00")) {
		t.Errorf("handed in: %q", got)
	}
	scrub(b)
	wantBag(t, n, 0, pack(0, 1, "`bc"))
}

// The rule 'Memory' at P8.1: an answer is new memory, of doubles too.
func TestAnswersAreNewMemory(t *testing.T) {
	n := newNet(t, 2)
	put(t, n, 0, 1, "abc")
	n.Double(0)
	n.Double(0)
	a, _ := n.Peek(0)
	b, _ := n.Take(0)
	c, _ := n.Take(0)
	scrub(a.Bytes)
	if string(b.Bytes) != "abc" || string(c.Bytes) != "abc" {
		t.Errorf("behind a scrub of Peek's: %q, %q", b.Bytes, c.Bytes)
	}
	scrub(b.Bytes)
	if string(c.Bytes) != "abc" {
		t.Errorf("behind a scrub of Take's: %q", c.Bytes)
	}
	scrub(c.Bytes)
	n.Turn(0, 0)
	wantBag(t, n, 0, pack(0, 1, "`bc"))
	n.Turn(0, 1)
	wantBag(t, n, 0, pack(0, 1, "bbc"))
}

// P1: a long packet is doubled as often as there is room, and each one turned, at the cost of few bytes.
func TestManyDoublesOfALongPacket(t *testing.T) {
	n := newNet(t, 1)
	long := make([]byte, 1<<26)
	n.Put(api.Packet{Bytes: long})
	for i := 1; i < api.MaxBag; i++ {
		if e := n.Double(0); e != api.OK {
			t.Fatalf("Double %d = %d", i, e)
		}
	}
	for i := range api.MaxBag {
		if e := n.Turn(i, 8*len(long)-1-i); e != api.OK {
			t.Fatalf("Turn %d = %d", i, e)
		}
	}
	p, e := n.Peek(9)
	if e != api.OK || len(p.Bytes) != len(long) || p.Bytes[len(long)-2] != 1<<6 || p.Bytes[len(long)-1] != 0 {
		t.Errorf("Peek: %d", e)
	}
}

// told is a packet of the model: its bytes as they are, and how many bits of them were turned.
type told struct {
	api.Packet
	turns int
}

// model is what the document says of a net, told in the plainest way.
type model struct {
	nodes int
	cut   map[[2]int]int
	bag   []told
	lost  int
}

func (m *model) hear(a, b int) bool {
	if a < 0 || a >= m.nodes || b < 0 || b >= m.nodes {
		return false
	}
	return m.cut[[2]int{min(a, b), max(a, b)}] == 0
}

func (m *model) class(i int) uint16 {
	var set uint16
	for k := range m.nodes {
		if !m.hear(i, k) {
			continue
		}
		set |= 1 << k
		for j := range m.nodes {
			if m.hear(k, j) != m.hear(i, j) {
				return 0
			}
		}
	}
	return set
}

func (m *model) put(p told) api.Errno {
	if !m.hear(p.From, p.From) || !m.hear(p.To, p.To) {
		return api.ErrArg
	}
	if len(m.bag) == api.MaxBag {
		m.lost++
		return api.ErrBusy
	}
	p.Bytes = bytes.Clone(p.Bytes)
	m.bag = append(m.bag, p)
	return api.OK
}

func (m *model) take(i int) (api.Packet, api.Errno) {
	if i < 0 || i >= len(m.bag) {
		return api.Packet{}, api.ErrArg
	}
	p := m.bag[i].Packet
	m.bag = slices.Delete(m.bag, i, i+1)
	if !m.hear(p.From, p.To) {
		m.lost++
		return api.Packet{}, api.ErrCut
	}
	return p, api.OK
}

func (m *model) turn(i, bit int) api.Errno {
	if i < 0 || i >= len(m.bag) || bit < 0 || bit >= 8*len(m.bag[i].Bytes) {
		return api.ErrArg
	}
	if m.bag[i].turns >= 2 {
		return api.ErrState
	}
	m.bag[i].turns++
	m.bag[i].Bytes[bit/8] ^= 1 << (bit % 8)
	return api.OK
}

func (m *model) change(a, b, to int) api.Errno {
	if !m.hear(a, a) || !m.hear(b, b) || a == b {
		return api.ErrArg
	}
	m.cut[[2]int{min(a, b), max(a, b)}] = to
	return api.OK
}

func (m *model) drop(i int) api.Errno {
	if i < 0 || i >= len(m.bag) {
		return api.ErrArg
	}
	m.bag = slices.Delete(m.bag, i, i+1)
	m.lost++
	return api.OK
}

func (m *model) double(i int) api.Errno {
	if i < 0 || i >= len(m.bag) {
		return api.ErrArg
	}
	return m.put(m.bag[i])
}

// step does one thing to both, and says whether both answer the same.
func step(r *rand.Rand, n *net.Net, m *model) bool {
	i, a, b := r.Intn(len(m.bag)+2)-1, r.Intn(m.nodes+2)-1, r.Intn(m.nodes+2)-1
	switch r.Intn(9) {
	case 0, 1, 2:
		p := api.Packet{From: a, To: b, Bytes: make([]byte, r.Intn(4))}
		return n.Put(p) == m.put(told{Packet: p})
	case 3:
		p, e := n.Take(i)
		q, f := m.take(i)
		return e == f && same(p, q)
	case 4:
		return n.Drop(i) == m.drop(i)
	case 5:
		return n.Double(i) == m.double(i)
	case 6:
		bit := r.Intn(34) - 1
		return n.Turn(i, bit) == m.turn(i, bit)
	case 7:
		return n.Cut(a, b) == m.change(a, b, 1)
	default:
		return n.Join(a, b) == m.change(a, b, 0)
	}
}

// P8.1, P8.2: many steps, held against the model.
func TestAsTheModel(t *testing.T) {
	for seed := range int64(60) {
		r := rand.New(rand.NewSource(seed))
		m := &model{nodes: 1 + r.Intn(5), cut: map[[2]int]int{}}
		n := newNet(t, m.nodes)
		for k := range 400 {
			if !step(r, n, m) {
				t.Fatalf("seed %d, step %d: they answer differently", seed, k)
			}
			var want []api.Packet
			for _, p := range m.bag {
				want = append(want, p.Packet)
			}
			wantBag(t, n, m.lost, want...)
			for a := -1; a <= m.nodes; a++ {
				if n.Class(a) != m.class(a) || n.Hear(a, k%m.nodes) != m.hear(a, k%m.nodes) {
					t.Fatalf("seed %d, step %d: node %d: Class %b, not %b", seed, k, a, n.Class(a), m.class(a))
				}
			}
		}
	}
}
