package content_test

import (
	"bytes"
	"math"
	"math/rand"
	"slices"
	"strings"
	"testing"

	"folkmoot/api"
	"folkmoot/content"
)

func view(n uint64, p int) api.ViewID {
	return api.ViewID{N: n, P: p}
}

func of(n uint64, p int, seq uint64, whose int) api.Label {
	return api.Label{V: view(n, p), Seq: seq, P: whose}
}

func entry(l api.Label, m string) api.Entry {
	return api.Entry{L: l, M: []byte(m)}
}

// named: the label of a letter; labels rise by their letters.
func named(x byte) api.Label {
	return of(1+uint64(x-'a')/4, 0, 1+uint64(x-'a')%4/2, int(x-'a')%2)
}

func labels(s string) []api.Label {
	var l []api.Label
	for _, x := range []byte(s) {
		l = append(l, named(x))
	}
	return l
}

// entries: an entry a word: the letter of its label, and its message.
func entries(s string) []api.Entry {
	var l []api.Entry
	for _, w := range strings.Fields(s) {
		l = append(l, entry(named(w[0]), w[1:]))
	}
	return l
}

func sameEntry(a, b api.Entry) bool {
	return a.L == b.L && bytes.Equal(a.M, b.M)
}

func same(a, b []api.Entry) bool {
	return slices.EqualFunc(a, b, sameEntry)
}

// rising: labels, right and wrong, each less than the next one, and by one thing alone.
var rising = []api.Label{
	of(0, 0, 0, math.MinInt), of(0, 0, 0, -1), of(0, 0, 0, 0), of(0, 0, 0, 1), of(0, 0, 1, 0), of(0, 1, 0, 0),
	of(1, -1, 7, 7), of(1, 0, 0, 15), of(1, 0, 1, 0), of(1, 0, 1, 1), of(1, 0, 1, 16), of(1, 0, 2, 0),
	of(1, 0, math.MaxInt64, 0), of(1, 0, math.MaxInt64+1, 0), of(1, 0, math.MaxUint64, math.MaxInt),
	of(1, 1, 0, 0), of(1, 1, 1, 0), of(1, 15, 1, 0), of(2, 0, 1, 0), of(2, 0, 1, 15),
	of(math.MaxInt64, 0, 1, 0), of(1<<63, 0, 1, 0), of(math.MaxUint64, 15, math.MaxUint64, 15),
}

// edges: labels that are right, rising, at the edges of how many bytes they have.
func edges() []api.Label {
	var l []api.Label
	numbers := []uint64{1, 127, 128, 300, 1 << 63, math.MaxUint64}
	for _, n := range numbers {
		for _, p := range []int{0, 15} {
			for _, seq := range numbers {
				l = append(l, of(n, p, seq, 0), of(n, p, seq, 7), of(n, p, seq, 15))
			}
		}
	}
	return l
}

// wrongLabels: labels that aren't right, each by one thing alone.
func wrongLabels() []api.Label {
	l := []api.Label{{}, of(0, 0, 1, 0), of(0, 1, 1, 0), of(1, 0, 0, 0), of(math.MaxUint64, 15, 0, 15)}
	for _, p := range []int{-1, api.MaxNodes, 127, 128, 255, 256, 1 << 32, math.MaxInt, math.MinInt} {
		l = append(l, of(1, p, 1, 0), of(1, 0, 1, p))
	}
	return l
}

// wrongViews: views' numbers that aren't right.
func wrongViews() []api.ViewID {
	return []api.ViewID{view(0, 1), view(0, 15), view(0, -1), view(1, -1), view(1, 16), view(math.MaxUint64, 16), view(1, 256), view(1, math.MaxInt), view(1, math.MinInt)}
}

// P15.1
func TestForm(t *testing.T) {
	long := strings.Repeat("m", api.MaxMsg+1)
	for _, l := range edges() {
		for _, n := range []int{0, 1, api.MaxMsg - 1, api.MaxMsg} {
			if !content.Form(entry(l, long[:n])) {
				t.Errorf("%v with %d bytes is right", l, n)
			}
		}
		if !content.Form(api.Entry{L: l}) {
			t.Errorf("%v with nothing is right", l)
		}
		if content.Form(entry(l, long)) || content.Form(api.Entry{L: l, M: make([]byte, api.MaxBytes)}) {
			t.Errorf("%v with more than MaxMsg bytes isn't right", l)
		}
	}
	for _, l := range wrongLabels() {
		if content.Form(entry(l, "a")) || content.Form(api.Entry{L: l}) || content.Form(entry(l, long)) {
			t.Errorf("%v isn't right", l)
		}
	}
}

// summary: the summary of entries, of an order by letters, and the others.
func summary(con, ord string, next int, high api.ViewID) api.Summary {
	return api.Summary{Con: entries(con), Ord: labels(ord), Next: next, High: high}
}

// rightOnes: summaries that are right.
func rightOnes() []api.Summary {
	var allEdges []api.Entry
	for _, l := range edges() {
		allEdges = append(allEdges, entry(l, strings.Repeat("m", len(allEdges)%(api.MaxMsg+1))))
	}
	falling := edges()
	slices.Reverse(falling)
	return []api.Summary{
		{Next: 1},
		{Con: []api.Entry{}, Ord: []api.Label{}, Next: 1},
		summary("", "", 1, view(1, 0)), summary("", "", 1, view(math.MaxUint64, 15)),
		summary("ax", "", 1, view(0, 0)), summary("ax b cxyz", "", 1, view(1, 0)),
		summary("", "a", 1, view(1, 0)), summary("", "a", 2, view(1, 0)),
		summary("a b c d e f", "fedcba", 1, view(2, 3)), summary("a b c d e f", "fedcba", 4, view(2, 3)), summary("a b c d e f", "fedcba", 7, view(2, 3)),
		// An order may name what isn't known, and what is known needn't be in it.
		summary("ax bx", "zy", 3, view(7, 0)), summary("a b", "b", 2, view(0, 0)),
		{Con: []api.Entry{entry(named('a'), strings.Repeat("m", api.MaxMsg))}, Next: 1},
		{Con: allEdges, Ord: falling, Next: len(falling) + 1, High: view(128, 15)},
		{Con: allEdges, Ord: edges(), Next: 128, High: view(1, 1)},
	}
}

// wrongOnes: summaries that aren't right, each by one thing alone.
func wrongOnes() []api.Summary {
	high := view(1, 0)
	l := []api.Summary{
		{},
		summary("b a", "", 1, high), summary("a c b", "", 1, high), summary("b a c", "", 1, high), // they don't rise
		summary("a a", "", 1, high), summary("ax ay", "", 1, high), summary("a b b c", "", 1, high), summary("a b a", "", 1, high), // one is there twice
		summary("", "aa", 1, high), summary("", "abca", 2, high), summary("", "zyxabz", 1, high), // one is ordered twice
	}
	for _, ord := range []string{"", "a", "ba", "fedcba"} {
		for _, next := range []int{math.MinInt, -len(ord), -1, 0, len(ord) + 2, len(ord) + 3, 256, math.MaxInt} {
			if next < 1 || next > len(ord)+1 {
				l = append(l, summary("a b", ord, next, high))
			}
		}
	}
	for _, v := range wrongViews() {
		l = append(l, summary("a b", "ba", 3, v))
	}
	for _, x := range wrongLabels() {
		l = append(l,
			api.Summary{Con: []api.Entry{{L: x}}, Next: 1, High: high},
			api.Summary{Ord: []api.Label{x}, Next: 1, High: high},
			api.Summary{Ord: []api.Label{named('b'), x, named('a')}, Next: 1, High: high},
			api.Summary{Ord: []api.Label{named('b'), named('a'), x}, Next: 1, High: high},
		)
	}
	long := make([]byte, api.MaxMsg+1)
	for at := range 3 {
		con := entries("a b c")
		con[at].M = long
		l = append(l, api.Summary{Con: con, Next: 1, High: high})
	}
	// In its right place, but itself wrong: at the beginning, in the middle, at the end.
	l = append(l,
		api.Summary{Con: []api.Entry{entry(of(0, 0, 1, 0), ""), entry(of(1, 0, 1, 0), "")}, Next: 1},
		api.Summary{Con: []api.Entry{entry(of(1, 0, 1, 0), ""), entry(of(1, 0, 1, 16), ""), entry(of(1, 0, 2, 0), "")}, Next: 1},
		api.Summary{Con: []api.Entry{entry(of(1, 0, 1, 0), ""), entry(of(1, 16, 1, 0), "")}, Next: 1},
	)
	return l
}

// P15.1
func TestRight(t *testing.T) {
	for i, s := range rightOnes() {
		if !content.Right(s) {
			t.Errorf("%d: %v is right", i, s)
		}
	}
	for i, s := range wrongOnes() {
		if content.Right(s) {
			t.Errorf("%d: %v isn't right", i, s)
		}
	}
}

// P15.1: each two labels by which entries rise, and each two by which they don't.
func TestRightOfTwoEntries(t *testing.T) {
	l := edges()
	for i, a := range l {
		for k, b := range l {
			s := api.Summary{Con: []api.Entry{entry(a, "x"), entry(b, "y")}, Next: 1}
			if content.Right(s) != (i < k) {
				t.Errorf("Right of %v, %v = %t", a, b, i >= k)
			}
		}
	}
}

// P15.1
func TestPut(t *testing.T) {
	for _, c := range []struct{ l, x, want string }{
		{"", "ax", "ax"}, {"", "a", "a"},
		{"ax", "ay", "ax"}, {"a", "ay", "a"}, {"ax", "a", "ax"},
		{"bx", "ay", "ay bx"}, {"ax", "by", "ax by"}, {"ax cx", "by", "ax by cx"},
		{"ax bx cx dx", "cy", "ax bx cx dx"}, {"ax bx cx dx", "ay", "ax bx cx dx"}, {"ax bx cx dx", "dy", "ax bx cx dx"},
		{"bx dx fx", "ay", "ay bx dx fx"}, {"bx dx fx", "ey", "bx dx ey fx"}, {"bx dx fx", "zy", "bx dx fx zy"},
	} {
		if l := content.Put(entries(c.l), entries(c.x)[0]); !same(l, entries(c.want)) {
			t.Errorf("Put(%s, %s) = %v", c.l, c.x, l)
		}
	}
}

// P15.1
func TestMerge(t *testing.T) {
	for _, c := range []struct{ l, more, want string }{
		{"", "", ""}, {"ax", "", "ax"}, {"", "ax", "ax"}, {"ax", "ay", "ax"},
		{"", "by ax bz", "ax by"}, {"", "bz ax by", "ax bz"}, {"", "d c b a", "a b c d"}, {"", "a1 a2 a3", "a1"},
		{"bx", "ay by cy", "ay bx cy"}, {"ax cx ex", "by dy", "ax by cx dy ex"}, {"ax cx ex", "fy ay dy cy by ey", "ax by cx dy ex fy"},
		{"cx", "dy by dz bz", "by cx dy"}, {"ax bx", "ay by", "ax bx"}, {"ax bx", "by ay", "ax bx"},
	} {
		if l := content.Merge(entries(c.l), entries(c.more)); !same(l, entries(c.want)) {
			t.Errorf("Merge(%s, %s) = %v", c.l, c.more, l)
		}
	}
}

// P15.1
func TestFind(t *testing.T) {
	for _, s := range []string{"", "ax", "bx dy fz", "a b1 c22 d333 e4444 f g6 h77"} {
		l := entries(s)
		for x := byte('a'); x <= 'i'; x++ {
			want, found := "", false
			for _, e := range l {
				if e.L == named(x) {
					want, found = string(e.M), true
				}
			}
			if m, ok := content.Find(l, named(x)); string(m) != want || ok != found {
				t.Errorf("Find(%s, %c) = %q, %t", s, x, m, ok)
			}
		}
	}
}

// P15.1
func TestLabels(t *testing.T) {
	for _, c := range []struct{ l, want string }{{"", ""}, {"ax", "a"}, {"a b c", "abc"}, {"bx dy fz", "bdf"}} {
		if l := content.Labels(entries(c.l)); !slices.Equal(l, labels(c.want)) {
			t.Errorf("Labels(%s) = %v", c.l, l)
		}
	}
}

// P15.1: labels that differ in one thing alone are not the same; neither lists nor messages need to be right.
func TestListsOfAnyEntries(t *testing.T) {
	var all []api.Entry
	for i, l := range rising {
		all = append(all, entry(l, strings.Repeat("m", i*api.MaxMsg)))
	}
	falling := slices.Clone(all)
	slices.Reverse(falling)
	if l := content.Merge(nil, falling); !same(l, all) {
		t.Errorf("Merge of all: %v", content.Labels(l))
	}
	for i, x := range all {
		rest := slices.Delete(slices.Clone(all), i, i+1)
		if m, ok := content.Find(rest, x.L); m != nil || ok {
			t.Errorf("Find of %v, which isn't there: %d bytes, %t", x.L, len(m), ok)
		}
		if m, ok := content.Find(all, x.L); !bytes.Equal(m, x.M) || !ok {
			t.Errorf("Find of %v: %d bytes, %t", x.L, len(m), ok)
		}
		if l := content.Put(rest, x); !same(l, all) {
			t.Errorf("Put of %v: %v", x.L, content.Labels(l))
		}
		if l := content.Merge(all[i:i+1], falling); !same(l, all) {
			t.Errorf("Merge of %v and all: %v", x.L, content.Labels(l))
		}
	}
}

// putModel: by the document's words: x at its place, if there is none of its label.
func putModel(l []api.Entry, x api.Entry) []api.Entry {
	at := 0
	for _, y := range l {
		if y.L == x.L {
			return l
		}
		if slices.Index(rising, y.L) < slices.Index(rising, x.L) {
			at++
		}
	}
	return slices.Insert(slices.Clone(l), at, x)
}

func anyEntries(r *rand.Rand, many int) []api.Entry {
	l := make([]api.Entry, r.Intn(many))
	for i := range l {
		l[i] = entry(rising[r.Intn(len(rising))], "abcdefgh"[:r.Intn(8)])
	}
	return l
}

// P15.1: held against a slow model.
func TestListsByAModel(t *testing.T) {
	r := rand.New(rand.NewSource(15))
	for range 20000 {
		var l []api.Entry
		for _, x := range anyEntries(r, 12) {
			got := content.Put(l, x)
			l = putModel(l, x)
			if !same(got, l) {
				t.Fatalf("Put of %v = %v, want %v", x, got, l)
			}
		}
		more, want := anyEntries(r, 30), l
		for _, x := range more {
			want = putModel(want, x)
		}
		if got := content.Merge(l, more); !same(got, want) {
			t.Fatalf("Merge(%v, %v) = %v, want %v", l, more, got, want)
		}
		for i, x := range content.Labels(want) {
			if m, ok := content.Find(want, x); x != want[i].L || !ok || !bytes.Equal(m, want[i].M) {
				t.Fatalf("Find(%v, %v) = %q, %t", want, x, m, ok)
			}
		}
	}
}

// P1: entries in no order, of which nothing else is promised.
func TestListsInNoOrder(t *testing.T) {
	r := rand.New(rand.NewSource(1))
	for range 5000 {
		l, more := anyEntries(r, 20), anyEntries(r, 20)
		content.Merge(l, more)
		content.Put(l, api.Entry{})
		content.Find(l, rising[r.Intn(len(rising))])
		if len(content.Labels(l)) != len(l) {
			t.Fatalf("Labels(%v) = %v", l, content.Labels(l))
		}
		content.Right(api.Summary{Con: l, Ord: content.Labels(more), Next: r.Int(), High: rising[r.Intn(len(rising))].V})
	}
}

// P1: nothing at all.
func TestNothing(t *testing.T) {
	if content.Form(api.Entry{}) || content.Right(api.Summary{}) {
		t.Error("nothing is right")
	}
	if l := content.Merge(nil, nil); len(l) != 0 {
		t.Errorf("Merge of nothing = %v", l)
	}
	if m, ok := content.Find(nil, api.Label{}); m != nil || ok {
		t.Errorf("Find in nothing = %q, %t", m, ok)
	}
	if l := content.Labels(nil); len(l) != 0 {
		t.Errorf("Labels of nothing = %v", l)
	}
	if l := content.Put(nil, api.Entry{}); len(l) != 1 || !sameEntry(l[0], api.Entry{}) {
		t.Errorf("Put of nothing = %v", l)
	}
	if m, ok := content.Find([]api.Entry{{}}, api.Label{}); len(m) != 0 || !ok {
		t.Errorf("Find of an empty message = %q, %t", m, ok)
	}
}

// P1: long lists end, too.
func TestLongLists(t *testing.T) {
	const n = 200000
	l, more := make([]api.Entry, n), make([]api.Entry, n)
	for i := range n {
		l[i] = entry(of(1, 0, uint64(2*i+2), 0), "l")
		more[i] = entry(of(1, 0, uint64(n-i), 0), "m")
	}
	all := content.Merge(l, more)
	if len(all) != n+n/2 {
		t.Fatalf("Merge has %d", len(all))
	}
	for i, x := range all[:n] {
		if x.L != of(1, 0, uint64(i+1), 0) || string(x.M) != string("ml"[i%2]) {
			t.Fatalf("at %d stands %v", i, x)
		}
		if m, ok := content.Find(all, x.L); !ok || !bytes.Equal(m, x.M) {
			t.Fatalf("Find(%v) = %q, %t", x.L, m, ok)
		}
	}
	if !content.Right(api.Summary{Con: all, Ord: content.Labels(all), Next: len(all) + 1}) {
		t.Error("they are right")
	}
}
