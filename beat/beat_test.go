package beat_test

import (
	"math"
	"math/rand"
	"testing"

	"folkmoot/api"
	"folkmoot/beat"
)

// config: a right one of so many nodes, with these ticks.
func config(nodes, every, miss int) api.Config {
	return api.Config{Nodes: nodes, Beat: every, Miss: miss, Window: 1, Ring: 1, Queue: 1}
}

func nodeOf(t *testing.T, c api.Config, self int) *beat.Beat {
	t.Helper()
	b, e := beat.New(c, self)
	if b == nil || e != api.OK {
		t.Fatalf("New(%v, %d) = %v, %d", c, self, b, e)
	}
	return b
}

func heard(t *testing.T, b *beat.Beat, i int, want api.Errno) {
	t.Helper()
	if e := b.Heard(i); e != want {
		t.Fatalf("Heard(%d) = %d, want %d", i, e, want)
	}
}

func est(t *testing.T, b *beat.Beat, want uint16) {
	t.Helper()
	if s := b.Est(); s != want {
		t.Fatalf("Est = %b, want %b", s, want)
	}
}

func ticks(b *beat.Beat, n int) {
	for range n {
		b.Tick()
	}
}

// edge is a number of a configuration, the values around its bounds, and which of them are right.
type edge struct {
	name  string
	set   func(c *api.Config, n int)
	right []int
	wrong []int
}

// edges: Beat's and Miss's bounds are those beside a Miss of 5, and a Beat of 3.
func edges() []edge {
	wrong := func(most int) []int { return []int{math.MinInt, -1, 0, most + 1, math.MaxInt} }
	right := func(most int) []int { return []int{1, 2, most - 1, most} }
	return []edge{
		{"Nodes", func(c *api.Config, n int) { c.Nodes = n }, right(16), wrong(16)},
		{"Beat", func(c *api.Config, n int) { c.Beat = n }, right(4), wrong(4)},
		{"Miss", func(c *api.Config, n int) { c.Miss = n }, []int{4, 5, 999, 1000}, []int{math.MinInt, -1, 0, 1, 2, 3, 1001, math.MaxInt}},
		{"Window", func(c *api.Config, n int) { c.Window = n }, right(32), wrong(32)},
		{"Ring", func(c *api.Config, n int) { c.Ring = n }, right(256), wrong(256)},
		{"Queue", func(c *api.Config, n int) { c.Queue = n }, right(256), wrong(256)},
	}
}

// isRight: both calls take a configuration, or neither does.
func isRight(t *testing.T, name string, c api.Config, want bool) {
	t.Helper()
	if got := beat.Form(c); got != want {
		t.Errorf("%s: Form(%v) = %t", name, c, got)
	}
	b, e := beat.New(c, 0)
	if want && (b == nil || e != api.OK) || !want && (b != nil || e != api.ErrArg) {
		t.Errorf("%s: New(%v, 0) = %v, %d", name, c, b, e)
	}
}

// P12.1
func TestForm(t *testing.T) {
	for _, g := range edges() {
		for _, n := range g.right {
			c := config(2, 3, 5)
			g.set(&c, n)
			isRight(t, g.name, c, true)
		}
		for _, n := range g.wrong {
			c := config(2, 3, 5)
			g.set(&c, n)
			isRight(t, g.name, c, false)
		}
	}
	isRight(t, "none", api.Config{}, false)
	isRight(t, "the least", api.Config{Nodes: 1, Beat: 1, Miss: 2, Window: 1, Ring: 1, Queue: 1}, true)
	isRight(t, "the greatest", api.Config{Nodes: 16, Beat: 999, Miss: 1000, Window: 32, Ring: 256, Queue: 256}, true)
}

// P12.1: Miss is above Beat, whatever both are, and where one less or one more than a number wraps round, too.
func TestFormMissIsAboveBeat(t *testing.T) {
	l := []int{math.MinInt, math.MinInt + 1, -1, 0, 1, 2, 3, 998, 999, 1000, 1001, math.MaxInt - 1, math.MaxInt}
	for _, every := range l {
		for _, miss := range l {
			want := 1 <= every && every < miss && miss <= 1000
			isRight(t, "Beat and Miss", config(1, every, miss), want)
		}
	}
}

// P12.1: a new node has heard of nobody; it is itself of the nodes.
func TestNew(t *testing.T) {
	for nodes := 1; nodes <= api.MaxNodes; nodes++ {
		for self := range nodes {
			est(t, nodeOf(t, config(nodes, 1, 2), self), 1<<self)
		}
		for _, self := range []int{math.MinInt, -1, nodes, nodes + 1, api.MaxNodes, 64, math.MaxInt} {
			if b, e := beat.New(config(nodes, 1, 2), self); b != nil || e != api.ErrArg {
				t.Errorf("%d nodes: New(%d) = %v, %d", nodes, self, b, e)
			}
		}
	}
	if b, e := beat.New(api.Config{}, -1); b != nil || e != api.ErrArg {
		t.Errorf("both wrong: New = %v, %d", b, e)
	}
}

// P12.1: the own beat is due at the first tick, and then at each Beat-th one.
func TestTick(t *testing.T) {
	for _, every := range []int{1, 2, 3, 15, 16, 17, 256, 999} {
		b := nodeOf(t, config(3, every, 1000), 2)
		for i := range 5*every + 2 {
			if due := b.Tick(); due != (i%every == 0) {
				t.Fatalf("Beat %d: tick %d: %t", every, i, due)
			}
		}
	}
}

// P12.1: of whom a node hears, and whom it misses, doesn't move its own beat.
func TestTickWhateverIsHeard(t *testing.T) {
	b := nodeOf(t, config(4, 3, 4), 1)
	for i := range 60 {
		if i%10 < 5 {
			heard(t, b, 0, api.OK)
			heard(t, b, 3, api.OK)
		}
		heard(t, b, 1, api.ErrArg)
		if due := b.Tick(); due != (i%3 == 0) {
			t.Fatalf("tick %d: %t", i, due)
		}
	}
}

// P12.1: the example.
func TestEst(t *testing.T) {
	b := nodeOf(t, config(2, 1, 3), 0)
	heard(t, b, 1, api.OK)
	est(t, b, 3)
	b.Tick()
	est(t, b, 3)
	b.Tick()
	est(t, b, 3)
	b.Tick()
	est(t, b, 1)
	ticks(b, 10)
	est(t, b, 1)
}

// P12.1: a node is missed at the Miss-th tick behind its last beat, not earlier and not later, whenever that beat came.
func TestEstMissesAtMiss(t *testing.T) {
	for _, miss := range []int{2, 3, 16, 17, 255, 256, 1000} {
		for _, before := range []int{0, 1, 15, 16, 250, 4095} {
			b := nodeOf(t, config(2, 1, miss), 1)
			ticks(b, before)
			est(t, b, 2)
			heard(t, b, 0, api.OK)
			for range miss {
				est(t, b, 3)
				b.Tick()
			}
			est(t, b, 2)
		}
	}
}

// P12.1: it is the last beat that counts.
func TestEstCountsFromTheLastBeat(t *testing.T) {
	b := nodeOf(t, config(2, 1, 3), 0)
	for range 20 {
		heard(t, b, 1, api.OK)
		heard(t, b, 1, api.OK)
		ticks(b, 2)
		est(t, b, 3)
	}
	b.Tick()
	est(t, b, 1)
	heard(t, b, 1, api.OK)
	est(t, b, 3)
	ticks(b, 3)
	est(t, b, 1)
}

// P12.1: each one's beats count for it alone.
func TestEstTellsNodesApart(t *testing.T) {
	b := nodeOf(t, config(4, 2, 3), 2)
	heard(t, b, 0, api.OK)
	b.Tick()
	heard(t, b, 1, api.OK)
	b.Tick()
	heard(t, b, 3, api.OK)
	est(t, b, 0b1111)
	b.Tick()
	est(t, b, 0b1110)
	heard(t, b, 0, api.OK)
	b.Tick()
	est(t, b, 0b1101)
	b.Tick()
	est(t, b, 0b0101)
	b.Tick()
	est(t, b, 0b0100)
}

// P12.1: as many as there may be are heard of, and missed, at once.
func TestEstOfAll(t *testing.T) {
	for self := range api.MaxNodes {
		b := nodeOf(t, config(api.MaxNodes, 999, 1000), self)
		for i := range api.MaxNodes {
			if i != self {
				heard(t, b, i, api.OK)
			}
		}
		ticks(b, 999)
		est(t, b, math.MaxUint16)
		b.Tick()
		est(t, b, 1<<self)
	}
}

// P12.1: one node alone hears of nobody, and beats.
func TestOneNodeAlone(t *testing.T) {
	b := nodeOf(t, config(1, 1, 2), 0)
	for range 5 {
		heard(t, b, 0, api.ErrArg)
		heard(t, b, 1, api.ErrArg)
		if !b.Tick() {
			t.Fatal("no beat")
		}
		est(t, b, 1)
	}
}

// P12.1: nobody is heard of but other nodes, and such a call changes nothing.
func TestHeardOfNoOtherNode(t *testing.T) {
	for nodes := 1; nodes <= api.MaxNodes; nodes++ {
		for self := range nodes {
			b := nodeOf(t, config(nodes, 1, 2), self)
			for _, i := range []int{math.MinInt, -65536, -1, self, nodes, api.MaxNodes, api.MaxNodes + self, 64, math.MaxInt} {
				heard(t, b, i, api.ErrArg)
				est(t, b, 1<<self)
			}
			ticks(b, 2)
			est(t, b, 1<<self)
		}
	}
}

// P12.1: asking changes nothing.
func TestEstIsOnlyAsked(t *testing.T) {
	b := nodeOf(t, config(3, 2, 5), 1)
	heard(t, b, 2, api.OK)
	for range 100 {
		est(t, b, 6)
	}
	if !b.Tick() || b.Tick() {
		t.Fatal("the beat has moved")
	}
}

// P12.1
func TestNil(t *testing.T) {
	var b *beat.Beat
	for _, i := range []int{-1, 0, 1, api.MaxNodes} {
		heard(t, b, i, api.ErrNone)
	}
	if b.Tick() || b.Est() != 0 {
		t.Errorf("Tick, Est = %t, %b", b.Tick(), b.Est())
	}
}

// told is the document's words taken plainly: how many ticks went by, and when each one's last beat came.
type told struct {
	c    api.Config
	self int
	now  int
	last map[int]int
}

func (m *told) tick() bool {
	m.now++
	return (m.now-1)%m.c.Beat == 0
}

func (m *told) heard(i int) api.Errno {
	if i < 0 || i >= m.c.Nodes || i == m.self {
		return api.ErrArg
	}
	m.last[i] = m.now
	return api.OK
}

func (m *told) est() uint16 {
	s := uint16(1) << m.self
	for i, at := range m.last {
		if m.now-at < m.c.Miss {
			s |= 1 << i
		}
	}
	return s
}

// anyOf: a right configuration, and a node of it; short times are tried more often than long ones.
func anyOf(r *rand.Rand) (api.Config, int) {
	miss := 2 + r.Intn([]int{4, 40, api.MaxDelay - 1}[r.Intn(3)])
	c := config(1+r.Intn(api.MaxNodes), 1+r.Intn(miss-1), miss)
	c.Window, c.Ring, c.Queue = 1+r.Intn(api.MaxWindow), 1+r.Intn(api.MaxRing), 1+r.Intn(api.MaxRing)
	return c, r.Intn(c.Nodes)
}

// P12.1, P1, P2: two nodes that were told the same answer the same, as the document's words say, and a third one beside them doesn't matter.
func TestAsTold(t *testing.T) {
	for seed := range int64(150) {
		r := rand.New(rand.NewSource(seed))
		c, self := anyOf(r)
		a, b, beside := nodeOf(t, c, self), nodeOf(t, c, self), nodeOf(t, c, r.Intn(c.Nodes))
		m := told{c: c, self: self, last: map[int]int{}}
		share := 1 + r.Intn(2*c.Miss)
		for step := range 3000 {
			beside.Heard(r.Intn(c.Nodes))
			if r.Intn(share+1) == 0 {
				i := r.Intn(c.Nodes+4) - 2
				want := m.heard(i)
				heard(t, a, i, want)
				heard(t, b, i, want)
			} else {
				beside.Tick()
				want := m.tick()
				if x, y := a.Tick(), b.Tick(); x != want || y != want {
					t.Fatalf("%d, step %d: Tick = %t, %t, want %t", seed, step, x, y, want)
				}
			}
			est(t, a, m.est())
			est(t, b, m.est())
		}
	}
}
