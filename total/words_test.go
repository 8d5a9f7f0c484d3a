package total_test

import (
	"bytes"
	"fmt"
	"slices"
	"strings"
	"testing"

	"folkmoot/api"
	"folkmoot/content"
	"folkmoot/total"
)

func id(n uint64, p int) api.ViewID {
	return api.ViewID{N: n, P: p}
}

// view: a view that the node 0 has proposed.
func view(n uint64, set uint16) api.View {
	return api.View{ID: id(n, 0), Set: set}
}

func of(v api.ViewID, seq uint64, p int) api.Label {
	return api.Label{V: v, Seq: seq, P: p}
}

// named: the label of a letter; labels rise by their letters. They are of views that no test has as its own: (90, 3) and those behind it.
func named(x byte) api.Label {
	return of(id(90+uint64(x-'a')/4, 3), 1+uint64(x-'a')%4/2, 1+int(x-'a')%2)
}

func labels(s string) []api.Label {
	var l []api.Label
	for _, x := range []byte(s) {
		l = append(l, named(x))
	}
	return l
}

// entries: an entry a word: the letter of its label, and its message.
func entries(s string) []api.Entry {
	var l []api.Entry
	for _, w := range strings.Fields(s) {
		l = append(l, api.Entry{L: named(w[0]), M: []byte(w[1:])})
	}
	return l
}

func summary(con, ord string, next int, high api.ViewID) api.Summary {
	return api.Summary{Con: entries(con), Ord: labels(ord), Next: next, High: high}
}

// empty: what a node tells that knows nothing.
func empty() api.Summary {
	return api.Summary{Next: 1}
}

func sameEntries(a, b []api.Entry) bool {
	return slices.EqualFunc(a, b, func(x, y api.Entry) bool { return x.L == y.L && bytes.Equal(x.M, y.M) })
}

func same(a, b api.Summary) bool {
	return sameEntries(a.Con, b.Con) && slices.Equal(a.Ord, b.Ord) && a.Next == b.Next && a.High == b.High
}

// one: an entry as a message of the view: the letter of its label, and its message.
func one(t *testing.T, word string) []byte {
	t.Helper()
	return oneOf(t, named(word[0]), word[1:])
}

func oneOf(t *testing.T, l api.Label, m string) []byte {
	t.Helper()
	b, e := content.EncodeOne(api.Entry{L: l, M: []byte(m)})
	if e != api.OK {
		t.Fatalf("EncodeOne(%v) = %d", l, e)
	}
	return b
}

func all(t *testing.T, s api.Summary) []byte {
	t.Helper()
	b, e := content.EncodeAll(s)
	if e != api.OK {
		t.Fatalf("EncodeAll(%v) = %d", s, e)
	}
	return b
}

func nodeOf(t *testing.T, n, self, queue int) *total.Total {
	t.Helper()
	x, e := total.New(n, self, queue)
	if e != api.OK || x == nil {
		t.Fatalf("New(%d, %d, %d) = %v, %d", n, self, queue, x, e)
	}
	return x
}

func want(t *testing.T, what string, got, want api.Errno) {
	t.Helper()
	if got != want {
		t.Fatalf("%s = %d, want %d", what, got, want)
	}
}

// bcasts: a client's messages, a word each, all of which are accepted.
func bcasts(t *testing.T, x *total.Total, words string) {
	t.Helper()
	for _, w := range strings.Fields(words) {
		want(t, "Bcast", x.Bcast([]byte(w)), api.OK)
	}
}

func enters(t *testing.T, x *total.Total, v api.View) {
	t.Helper()
	want(t, fmt.Sprint("View", v), x.View(v), api.OK)
}

func recvs(t *testing.T, x *total.Total, from int, m []byte) {
	t.Helper()
	want(t, "Recv", x.Recv(from, m), api.OK)
}

func safes(t *testing.T, x *total.Total, from int, m []byte) {
	t.Helper()
	want(t, "Safe", x.Safe(from, m), api.OK)
}

// sends: what is to be sent, which is sent then.
func sends(t *testing.T, x *total.Total) []byte {
	t.Helper()
	m, ok := x.Next()
	if !ok {
		t.Fatal("nothing is to be sent")
	}
	want(t, "Sent", x.Sent(), api.OK)
	return m
}

// sendsAll: the summary is to be sent, and is sent then.
func sendsAll(t *testing.T, x *total.Total) []byte {
	t.Helper()
	own := x.Summary()
	m := sends(t, x)
	if k, _, s, e := content.Decode(m); k != content.All || e != api.OK || !same(s, own) {
		t.Fatalf("what is sent is %d, %v, %d, want %v", k, s, e, own)
	}
	return m
}

// sendsOne: that entry is to be sent, and is sent then.
func sendsOne(t *testing.T, x *total.Total, l api.Label, m string) []byte {
	t.Helper()
	b := sends(t, x)
	if !bytes.Equal(b, oneOf(t, l, m)) {
		t.Fatalf("what is sent is % x, want %v, %q", b, l, m)
	}
	return b
}

// quiet: nothing is to be sent.
func quiet(t *testing.T, x *total.Total) {
	t.Helper()
	if m, ok := x.Next(); len(m) != 0 || ok {
		t.Fatalf("Next = % x, %t", m, ok)
	}
	want(t, "Sent", x.Sent(), api.ErrState)
}

// knows: the summary.
func knows(t *testing.T, x *total.Total, s api.Summary) {
	t.Helper()
	if got := x.Summary(); !same(got, s) {
		t.Fatalf("Summary = %v, want %v", got, s)
	}
}

// takes: just these are delivered, a word each: from whom, and what.
func takes(t *testing.T, x *total.Total, words string) {
	t.Helper()
	var l []string
	for i, e := x.Take(); e != api.ErrNone; i, e = x.Take() {
		want(t, "Take", e, api.OK)
		l = append(l, fmt.Sprint(i.From)+string(i.M))
	}
	if got := strings.Join(l, " "); got != words {
		t.Fatalf("it takes %q, want %q", got, words)
	}
	if i, e := x.Take(); i.From != 0 || len(i.M) != 0 || e != api.ErrNone {
		t.Fatalf("Take = %v, %d", i, e)
	}
}

// settles: a node of a new view, in which these are told by their nodes, in their order, behind its own summary.
func settles(t *testing.T, x *total.Total, self int, v api.View, told map[int]api.Summary) {
	t.Helper()
	enters(t, x, v)
	recvs(t, x, self, sendsAll(t, x))
	for i := range api.MaxNodes {
		if s, ok := told[i]; ok {
			recvs(t, x, i, all(t, s))
		}
	}
}

// secures: all summaries of the view are safe.
func secures(t *testing.T, x *total.Total, nodes ...int) {
	t.Helper()
	for _, i := range nodes {
		safes(t, x, i, all(t, empty()))
	}
}
