package exchange_test

import (
	"bytes"
	"math"
	"math/rand"
	"slices"
	"strings"
	"testing"

	"folkmoot/api"
	"folkmoot/content"
	"folkmoot/exchange"
	"folkmoot/label"
)

func view(n uint64, p int) api.ViewID {
	return api.ViewID{N: n, P: p}
}

// named: the label of a letter; labels rise by their letters.
func named(x byte) api.Label {
	return api.Label{V: view(1+uint64(x-'a')/4, 0), Seq: 1 + uint64(x-'a')%4/2, P: int(x-'a') % 2}
}

func labels(s string) []api.Label {
	var l []api.Label
	for _, x := range []byte(s) {
		l = append(l, named(x))
	}
	return l
}

// entries: an entry a word: the letter of its label, and its message.
func entries(s string) []api.Entry {
	var l []api.Entry
	for _, w := range strings.Fields(s) {
		l = append(l, api.Entry{L: named(w[0]), M: []byte(w[1:])})
	}
	return l
}

func told(node int, con, ord string, next int, high api.ViewID) exchange.Told {
	return exchange.Told{Node: node, S: api.Summary{Con: entries(con), Ord: labels(ord), Next: next, High: high}}
}

// of: a node that told of a primary view, with an order.
func of(node int, high api.ViewID, ord string) exchange.Told {
	return told(node, "", ord, 1, high)
}

func list(l ...exchange.Told) []exchange.Told {
	return l
}

func same(a, b []api.Entry) bool {
	return slices.EqualFunc(a, b, func(x, y api.Entry) bool { return x.L == y.L && bytes.Equal(x.M, y.M) })
}

// P16.1, the document's example and the edges.
func TestHighChosenShort(t *testing.T) {
	none, v, w := view(0, 0), view(1, 0), view(2, 0)
	for i, c := range []struct {
		l      []exchange.Told
		high   api.ViewID
		chosen int
		short  string
	}{
		{nil, none, -1, ""},
		{list(), none, -1, ""},
		{list(of(0, none, "")), none, 0, ""},
		{list(of(3, none, "ba")), none, 3, "ba"},
		{list(of(0, v, "a"), of(1, w, "ba")), w, 1, "ba"},
		{list(of(1, w, "ba"), of(0, v, "a")), w, 1, "ba"},
		{list(of(0, w, "ba"), of(1, v, "a")), w, 0, "ba"},
		{list(of(15, v, "a"), of(2, w, "b"), of(1, none, "c")), w, 2, "b"},
		// Of several the greatest node, wherever it stands.
		{list(of(0, v, "a"), of(2, v, "b"), of(1, v, "c")), v, 2, "b"},
		{list(of(2, v, "b"), of(1, v, "c"), of(0, v, "a")), v, 2, "b"},
		{list(of(0, none, "a"), of(1, none, "b"), of(2, none, "c")), none, 2, "c"},
		{list(of(3, w, "a"), of(4, w, "b"), of(5, v, "c"), of(15, none, "d")), w, 4, "b"},
		{list(of(3, w, "a"), of(4, w, ""), of(5, v, "c")), w, 4, ""},
		// The greater N, or the greater P.
		{list(of(0, view(1, 15), "a"), of(1, view(2, 0), "b"), of(2, view(1, 3), "c")), view(2, 0), 1, "b"},
		{list(of(0, view(2, 7), "a"), of(1, view(2, 8), "b"), of(2, view(2, 6), "c")), view(2, 8), 1, "b"},
		{list(of(0, view(math.MaxInt64, 0), "a"), of(1, view(1<<63, 0), "b")), view(1<<63, 0), 1, "b"},
		{list(of(0, view(math.MaxUint64, 15), "a"), of(1, view(1, 0), "b")), view(math.MaxUint64, 15), 0, "a"},
	} {
		check(t, i, c.l, c.high, c.chosen, c.short)
	}
}

func check(t *testing.T, i int, l []exchange.Told, high api.ViewID, chosen int, short string) {
	t.Helper()
	if v := exchange.High(l); v != high {
		t.Errorf("%d: High = %v, want %v", i, v, high)
	}
	if n := exchange.Chosen(l); n != chosen {
		t.Errorf("%d: Chosen = %d, want %d", i, n, chosen)
	}
	if s := exchange.Short(l); !slices.Equal(s, labels(short)) {
		t.Errorf("%d: Short = %v, want %s", i, s, short)
	}
}

// P16.1: nodes and numbers that no summary of a view has.
func TestWrongNodesAndNumbers(t *testing.T) {
	none, v, w := view(0, 0), view(1, 0), view(2, 0)
	for i, c := range []struct {
		l      []exchange.Told
		high   api.ViewID
		chosen int
		short  string
	}{
		// Nodes below 0 are none: what they told is told, but none of them is chosen.
		{list(of(-1, v, "a")), v, -1, ""},
		{list(of(-7, v, "a"), of(math.MinInt, v, "b")), v, -1, ""},
		{list(of(-1, v, "a"), of(0, v, "b")), v, 0, "b"},
		{list(of(-1, w, "a"), of(0, v, "b")), w, -1, ""},
		{list(of(-1, v, "a"), of(0, w, "b")), w, 0, "b"},
		{list(of(-1, none, "a")), none, -1, ""},
		// Others are nodes.
		{list(of(15, v, "a"), of(16, v, "b")), v, 16, "b"},
		{list(of(math.MaxInt, v, "a"), of(16, v, "b")), v, math.MaxInt, "a"},
		// A node that told twice: the first order that it told.
		{list(of(1, v, "a"), of(1, v, "b")), v, 1, "a"},
		{list(of(0, v, "c"), of(1, v, "a"), of(1, v, "b"), of(1, v, "d")), v, 1, "a"},
		{list(of(1, v, "a"), of(1, w, "b")), w, 1, "a"},
		{list(of(1, w, "b"), of(1, v, "a")), w, 1, "b"},
		{list(of(1, v, ""), of(1, w, "b")), w, 1, ""},
		// Numbers that aren't right stand to others as layer 4 tells it.
		{list(of(0, view(0, -1), "a")), none, -1, ""},
		{list(of(0, view(0, math.MinInt), "a"), of(1, none, "b")), none, 1, "b"},
		{list(of(0, view(1, -1), "a")), view(1, -1), 0, "a"},
		{list(of(0, view(1, -1), "a"), of(1, v, "b")), v, 1, "b"},
		{list(of(0, view(1, 99), "a"), of(1, v, "b")), view(1, 99), 0, "a"},
		{list(of(0, view(0, 5), "a"), of(1, none, "b")), view(0, 5), 0, "a"},
	} {
		check(t, i, c.l, c.high, c.chosen, c.short)
	}
}

// con: a node for each text, which told these entries.
func con(texts ...string) []exchange.Told {
	var l []exchange.Told
	for i, s := range texts {
		l = append(l, told(i, s, "", 1, view(0, 0)))
	}
	return l
}

// P16.1
func TestKnown(t *testing.T) {
	for _, c := range []struct {
		l    []exchange.Told
		want string
	}{
		{nil, ""}, {con(""), ""}, {con("", "", ""), ""},
		{con("ax"), "ax"}, {con("ax", "ay"), "ax"}, {con("", "ay", "ax"), "ay"},
		{con("bx", "ay cy"), "ay bx cy"}, {con("a1 c1 e1", "b2 c2 d2", "a3 d3 f3"), "a1 b2 c1 d2 e1 f3"},
		{con("c1", "c2 d2", "b3 c3", "a4 b4 c4 d4"), "a4 b3 c1 d2"},
		{con("a", "a1"), "a"},
		// All that was told is known, whoever told it, and however often.
		{list(told(-1, "ax", "", 1, view(0, 0)), told(3, "bx", "", 1, view(9, 0)), told(3, "by cy", "", 1, view(1, 0)), told(99, "cz dz", "", 1, view(0, 0))), "ax bx cy dz"},
		// Nothing but Con is looked at.
		{list(told(0, "ax", "bcd", 4, view(1, 0))), "ax"},
	} {
		if l := exchange.Known(c.l); !same(l, entries(c.want)) {
			t.Errorf("Known(%v) = %v, want %s", c.l, l, c.want)
		}
	}
}

// P16.1
func TestFull(t *testing.T) {
	v, w := view(1, 0), view(2, 0)
	for i, c := range []struct {
		l    []exchange.Told
		want string
	}{
		{nil, ""},
		{list(told(0, "", "", 1, v)), ""},
		{list(told(0, "", "ba", 1, v)), "ba"},
		{list(told(0, "a b c", "", 1, v)), "abc"},
		{list(told(0, "a b c d", "ca", 1, v)), "cabd"},
		{list(told(0, "a c d", "ba", 1, v)), "bacd"},
		{list(told(0, "a b c", "a", 1, v), told(1, "", "c", 2, w)), "cab"},
		{list(told(0, "a b c", "a", 1, w), told(1, "", "c", 2, v)), "abc"},
		{list(told(0, "f", "f", 1, v), told(1, "b d", "db", 1, v), told(2, "a c e", "ce", 1, v)), "ceabdf"},
		{list(told(0, "d e", "ed", 1, v), told(1, "c", "", 1, w)), "cde"},
		// Nobody is chosen.
		{list(told(-1, "b c", "cb", 1, w), told(0, "a", "a", 1, v)), "abc"},
		// An order is told as it is, even if one is in it twice.
		{list(told(0, "a b c", "bab", 1, v)), "babc"},
		// Labels of orders that weren't chosen, and of no entry, aren't there.
		{list(told(0, "a", "xyz", 1, v), told(1, "b", "", 1, w)), "ab"},
	} {
		if l := exchange.Full(c.l); !slices.Equal(l, labels(c.want)) {
			t.Errorf("%d: Full = %v, want %s", i, l, c.want)
		}
	}
}

// P16.1
func TestNext(t *testing.T) {
	for _, c := range []struct {
		nexts []int
		want  int
	}{
		{nil, 1}, {[]int{0}, 1}, {[]int{1}, 1}, {[]int{2}, 2}, {[]int{-5}, 1}, {[]int{math.MinInt, -1, 0}, 1},
		{[]int{1, 2, 3}, 3}, {[]int{3, 2, 1}, 3}, {[]int{2, 7, 4}, 7}, {[]int{math.MaxInt, 1}, math.MaxInt}, {[]int{0, 1, 0}, 1},
	} {
		var l []exchange.Told
		for i, n := range c.nexts {
			// Neither who told it, nor the primary view, nor an order makes a difference.
			l = append(l, told(i-1, "a", "ba", n, view(uint64(9-i), 0)))
		}
		if n := exchange.Next(l); n != c.want {
			t.Errorf("Next of %v = %d, want %d", c.nexts, n, c.want)
		}
	}
}

// model: what all calls tell, by the document's words.
type model struct {
	high   api.ViewID
	chosen int
	short  []api.Label
	known  []api.Entry
	full   []api.Label
	next   int
}

func above(a, b api.ViewID) bool {
	return a.N > b.N || a.N == b.N && a.P > b.P
}

func modelOf(l []exchange.Told) model {
	m := model{chosen: -1, next: 1}
	for _, x := range l {
		if above(x.S.High, m.high) {
			m.high = x.S.High
		}
		if x.S.Next > m.next {
			m.next = x.S.Next
		}
		m.known = content.Merge(m.known, x.S.Con)
	}
	for _, x := range l {
		if x.S.High == m.high && x.Node > m.chosen {
			m.chosen = x.Node
		}
	}
	for i := len(l) - 1; i >= 0; i-- {
		if l[i].Node == m.chosen && m.chosen >= 0 {
			m.short = l[i].S.Ord
		}
	}
	m.full = label.Behind(m.short, content.Labels(m.known))
	return m
}

// someTold: some nodes, some of them twice and some of them none, that told something.
func someTold(r *rand.Rand) []exchange.Told {
	l := make([]exchange.Told, r.Intn(7))
	for i := range l {
		l[i] = told(r.Intn(6)-1, "", "", r.Intn(6)-1, view(uint64(r.Intn(3)), r.Intn(4)-1))
		for x := range byte(12) {
			if r.Intn(3) == 0 {
				l[i].S.Con = append(l[i].S.Con, api.Entry{L: named('a' + x), M: []byte{byte(i)}})
			}
			if r.Intn(3) == 0 {
				l[i].S.Ord = append(l[i].S.Ord, named('a'+byte(r.Intn(12))))
			}
		}
	}
	return l
}

// P16.1: held against a slow model.
func TestByAModel(t *testing.T) {
	r := rand.New(rand.NewSource(16))
	for range 20000 {
		l := someTold(r)
		m := modelOf(l)
		if exchange.High(l) != m.high || exchange.Chosen(l) != m.chosen || exchange.Next(l) != m.next {
			t.Fatalf("of %v: High %v, Chosen %d, Next %d, want %v", l, exchange.High(l), exchange.Chosen(l), exchange.Next(l), m)
		}
		if !slices.Equal(exchange.Short(l), m.short) || !same(exchange.Known(l), m.known) || !slices.Equal(exchange.Full(l), m.full) {
			t.Fatalf("of %v: Short %v, Known %v, Full %v, want %v", l, exchange.Short(l), exchange.Known(l), exchange.Full(l), m)
		}
	}
}

// P1: entries in no order, of which nothing else is promised.
func TestEntriesInNoOrder(t *testing.T) {
	for _, l := range [][]exchange.Told{
		con("c b a"), con("a a a"), con("b a", "a b", "c c"), list(exchange.Told{}, exchange.Told{}),
		list(exchange.Told{S: api.Summary{Con: make([]api.Entry, 3), Ord: make([]api.Label, 3)}}),
	} {
		exchange.Known(l)
		exchange.Full(l)
	}
}

// P1: very many that told something end, too.
func TestVeryMany(t *testing.T) {
	const n = 100000
	l := make([]exchange.Told, n)
	for i := range l {
		at := api.Label{V: view(1, 0), Seq: uint64(n - i)}
		l[i] = exchange.Told{Node: i, S: api.Summary{Con: []api.Entry{{L: at}}, Ord: []api.Label{at}, Next: i, High: view(uint64(i/2), 0)}}
	}
	full := exchange.Full(l)
	if len(full) != n || full[0].Seq != 1 || full[n-1].Seq != n || exchange.Chosen(l) != n-1 || exchange.Next(l) != n-1 || len(exchange.Known(l)) != n {
		t.Errorf("Full has %d, Chosen %d, Next %d", len(full), exchange.Chosen(l), exchange.Next(l))
	}
}
