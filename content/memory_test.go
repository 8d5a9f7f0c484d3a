package content_test

import (
	"bytes"
	"slices"
	"testing"

	"folkmoot/api"
	"folkmoot/content"
)

var rest = of(99, 9, 99, 9)

// roomyBytes: the bytes, with others in the room behind them.
func roomyBytes(p []byte) []byte {
	return append(bytes.Clone(p), "rest"...)[:len(p)]
}

// roomy: the entries, with others in the room behind them and behind their messages.
func roomy(l []api.Entry) []api.Entry {
	r := make([]api.Entry, 0, len(l)+2)
	for _, x := range l {
		r = append(r, api.Entry{L: x.L, M: roomyBytes(x.M)})
	}
	return append(r, entry(rest, "rest"), entry(rest, "rest"))[:len(l)]
}

func roomyLabels(l []api.Label) []api.Label {
	return append(slices.Clone(l), rest, rest)[:len(l)]
}

// picture: a copy of all that stands in entries, in the room behind them too.
func picture(l []api.Entry) []api.Entry {
	c := slices.Clone(l[:cap(l)])
	for i := range c {
		c[i].M = bytes.Clone(c[i].M[:cap(c[i].M)])
	}
	return c
}

// unchanged: are the entries, with the room behind them, still those of the picture?
func unchanged(l, was []api.Entry) bool {
	return same(picture(l), was)
}

func scrubBytes(p []byte) {
	p = p[:cap(p)]
	for i := range p {
		p[i] ^= 0x55
	}
}

func scrubLabels(l []api.Label) {
	l = l[:cap(l)]
	for i := range l {
		l[i] = of(77, 7, 77, 7)
	}
}

// scrub writes over entries, their messages, and all room behind them.
func scrub(l []api.Entry) {
	l = l[:cap(l)]
	for i := range l {
		scrubBytes(l[i].M)
		l[i] = entry(of(77, 7, 77, 7), "scrub")
	}
}

// apart: no message of a list shares memory with another one.
func apart(t *testing.T, what string, l []api.Entry) {
	t.Helper()
	was := picture(l)
	for i := range l {
		scrubBytes(l[i].M)
		for k := range l {
			if k != i && !bytes.Equal(l[k].M[:cap(l[k].M)], was[k].M) {
				t.Errorf("%s: the messages at %d and %d share memory", what, i, k)
			}
		}
		scrubBytes(l[i].M)
	}
}

// The rule 'Memory' at P15.1.
func TestListsAnswerNewMemory(t *testing.T) {
	for _, c := range []struct{ l, more string }{
		{"", ""}, {"", "ax"}, {"ax", ""}, {"ax", "ax"}, {"ax cxx exxx", "dy by"}, {"ax cxx exxx", "ey cy ay"}, {"", "cx bx ax bx"}, {"ax bx", "cx dx"},
	} {
		l, more, x := roomy(entries(c.l)), roomy(entries(c.more)), roomy(entries("bput"))
		wasL, wasMore, wasX := picture(l), picture(more), picture(x)
		for name, call := range map[string]func() []api.Entry{
			"Merge":     func() []api.Entry { return content.Merge(l, more) },
			"Merge one": func() []api.Entry { return content.Merge(l, l) },
			"Put":       func() []api.Entry { return content.Put(l, x[0]) },
		} {
			first := call()
			want := picture(first[:len(first):len(first)])
			apart(t, name, first)
			scrub(call())
			if !unchanged(l, wasL) || !unchanged(more, wasMore) || !unchanged(x, wasX) {
				t.Fatalf("%s of %v: an argument was changed", name, c)
			}
			if !unchanged(first[:len(first):len(first)], want) {
				t.Errorf("%s of %v: two answers share memory", name, c)
			}
		}
		scrubLabels(content.Labels(l))
		for _, x := range l {
			m, _ := content.Find(l, x.L)
			scrubBytes(m)
		}
		if !unchanged(l, wasL) {
			t.Errorf("Labels, Find of %v: an argument was changed", c)
		}
	}
}

// The rule 'Memory' at P15.1: nothing of what was handed in is kept.
func TestListsKeepNothing(t *testing.T) {
	l, more := roomy(entries("ax cxx")), roomy(entries("by d"))
	merged, put := content.Merge(l, more), content.Put(l, more[0])
	found, _ := content.Find(l, named('c'))
	labelled := content.Labels(l)
	scrub(l)
	scrub(more)
	if !same(merged, entries("ax by cxx d")) || !same(put, entries("ax by cxx")) || string(found) != "xx" || !slices.Equal(labelled, labels("ac")) {
		t.Errorf("%v, %v, %q, %v", merged, put, found, labelled)
	}
}

// The rule 'Memory' at P15.1, P15.2: neither asking nor encoding changes anything.
func TestEncodeMemory(t *testing.T) {
	s := api.Summary{Con: roomy(entries("ax bxx c")), Ord: roomyLabels(labels("ba")), Next: 2, High: view(3, 1)}
	wasCon, wasOrd := picture(s.Con), slices.Clone(s.Ord[:cap(s.Ord)])
	want := summaryModel(s)
	first, _ := content.EncodeAll(s)
	second, _ := content.EncodeAll(s)
	oneFirst, _ := content.EncodeOne(s.Con[1])
	oneSecond, _ := content.EncodeOne(s.Con[1])
	content.Right(s)
	content.Form(s.Con[0])
	scrubBytes(second)
	scrubBytes(oneSecond)
	if !bytes.Equal(first, want) || !bytes.Equal(oneFirst, entryModel([]byte{1}, s.Con[1])) {
		t.Error("two answers share memory")
	}
	if !unchanged(s.Con, wasCon) || !slices.Equal(s.Ord[:cap(s.Ord)], wasOrd) {
		t.Error("an argument was changed")
	}
	scrub(s.Con)
	scrubLabels(s.Ord)
	if !bytes.Equal(first, want) {
		t.Error("an answer shares memory with an argument")
	}
}

// The rule 'Memory' at P15.2.
func TestDecodeMemory(t *testing.T) {
	s := summary("ax bxx c dxxx", "dba", 2, view(3, 1))
	p := roomyBytes(summaryModel(s))
	was := bytes.Clone(p[:cap(p)])
	_, _, first, _ := content.Decode(p)
	_, _, second, _ := content.Decode(p)
	apart(t, "Decode", first.Con)
	scrub(second.Con)
	scrubLabels(second.Ord)
	if !bytes.Equal(p[:cap(p)], was) {
		t.Error("the bytes were changed")
	}
	scrubBytes(p)
	if !sameSummary(first, s) {
		t.Errorf("Decode = %v", first)
	}

	p = entryModel([]byte{1}, entry(named('a'), "xyz"))
	_, x, _, _ := content.Decode(p)
	_, y, _, _ := content.Decode(p)
	scrubBytes(y.M)
	scrubBytes(p)
	if !sameEntry(x, entry(named('a'), "xyz")) {
		t.Errorf("Decode = %v", x)
	}
}

// P2: what is answered hangs neither on room, nor on what was asked before.
func TestSameAnswers(t *testing.T) {
	s := summary("ax bxx c dxxx", "dba", 2, view(3, 1))
	r := api.Summary{Con: roomy(s.Con), Ord: roomyLabels(s.Ord), Next: 2, High: view(3, 1)}
	a, _ := content.EncodeAll(s)
	content.Decode(nil)
	content.EncodeAll(api.Summary{})
	b, _ := content.EncodeAll(r)
	if !bytes.Equal(a, b) || !bytes.Equal(again(roomyBytes(a)), a) {
		t.Errorf("EncodeAll = % x, % x", a, b)
	}
	if !same(content.Merge(s.Con, r.Con), s.Con) || !same(content.Merge(r.Con, s.Con), s.Con) || !content.Right(r) {
		t.Error("the answer hangs on room")
	}
}
