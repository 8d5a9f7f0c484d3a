package judge_test

import (
	"bytes"
	"math"
	"math/rand"
	"slices"
	"strconv"
	"strings"
	"testing"

	"folkmoot/api"
	"folkmoot/judge"
)

// items: an item a word: whose it is, and its message.
func items(s string) []api.Item {
	var l []api.Item
	for _, w := range strings.Fields(s) {
		from, m, _ := strings.Cut(w, ":")
		i, err := strconv.Atoi(from)
		if err != nil {
			panic(err)
		}
		l = append(l, api.Item{From: i, M: []byte(m)})
	}
	return l
}

// delivered: a node's items a text.
func delivered(l ...string) [][]api.Item {
	var all [][]api.Item
	for _, s := range l {
		all = append(all, items(s))
	}
	return all
}

// accepted: a node's messages a text, a message a letter.
func accepted(l ...string) [][][]byte {
	var all [][][]byte
	for _, s := range l {
		var own [][]byte
		for _, x := range []byte(s) {
			own = append(own, []byte{x})
		}
		all = append(all, own)
	}
	return all
}

func sameItem(a, b api.Item) bool {
	return a.From == b.From && bytes.Equal(a.M, b.M)
}

func sameItems(a, b []api.Item) bool {
	return slices.EqualFunc(a, b, sameItem)
}

// P19.1: what is one order, and the shortest one.
func TestTotalOfOneOrder(t *testing.T) {
	for _, c := range []struct {
		accepted [][][]byte
		got      [][]api.Item
		want     string
	}{
		{accepted("ab"), delivered("0:a", ""), "0:a"}, // the document's example
		{nil, nil, ""},
		{nil, delivered("", ""), ""},
		{accepted("ab", "c"), nil, ""},
		{accepted("ab", "c"), delivered("", "", ""), ""},
		{accepted("", "", ""), delivered("", "", ""), ""},
		{accepted("ab"), delivered("0:a"), "0:a"},
		{accepted("ab"), delivered("0:a 0:b"), "0:a 0:b"},
		{accepted("ab"), delivered("0:a", "0:a", "0:a"), "0:a"},
		{accepted("ab", "c"), delivered("0:a", "0:a 1:c 0:b", "0:a 1:c"), "0:a 1:c 0:b"},
		{accepted("ab", "c"), delivered("0:a 1:c", "0:a", ""), "0:a 1:c"},
		{accepted("ab", "c"), delivered("", "0:a", "0:a 1:c"), "0:a 1:c"},
		{accepted("ab", "cd"), delivered("1:c 0:a 1:d", "1:c 0:a"), "1:c 0:a 1:d"},
		{accepted("ab", "cd"), delivered("1:c 1:d", "1:c 1:d"), "1:c 1:d"},
		{accepted("a", "", "c"), delivered("2:c 0:a"), "2:c 0:a"},
		{accepted("aa"), delivered("0:a 0:a", "0:a"), "0:a 0:a"},
		{accepted("aba"), delivered("0:a 0:b 0:a"), "0:a 0:b 0:a"},
		{accepted("a", "a"), delivered("1:a 0:a", "1:a"), "1:a 0:a"},
		{accepted("abcdef"), delivered("0:a 0:b"), "0:a 0:b"},
		// as many lists as there may be, and more of the one kind than of the other
		{accepted("", "b"), delivered("1:b"), "1:b"},
		{accepted("a"), delivered("", "", "", "0:a"), "0:a"},
		{accepted("", "", "", "", "", "", "", "", "", "", "", "", "", "", "", "a"), delivered("15:a"), "15:a"},
		{accepted("", "", "", "", "", "", "", "", "", "", "", "", "", "", "", "", "a"), delivered("16:a"), "16:a"},
		// an empty message is one
		{[][][]byte{{{}, []byte("a"), nil}}, delivered("0: 0:a 0:", "0:"), "0: 0:a 0:"},
		{[][][]byte{{nil}}, [][]api.Item{{{M: []byte{}}}, {{}}}, "0:"},
	} {
		if l, ok := judge.Total(c.accepted, c.got); !ok || !sameItems(l, items(c.want)) {
			t.Errorf("Total(%q, %v) = %v, %t, want %s", c.accepted, c.got, l, ok, c.want)
		}
	}
}

// P19.1: what isn't one order: two, or not what nodes accepted.
func TestTotalOfNone(t *testing.T) {
	ab := accepted("ab", "cd")
	type given struct {
		accepted [][][]byte
		got      [][]api.Item
	}
	for _, c := range []given{
		// unlike orders
		{ab, delivered("0:a", "1:c")},
		{ab, delivered("0:a 1:c", "1:c 0:a")},
		{ab, delivered("0:a 0:b", "0:a 1:c", "0:a")},
		{ab, delivered("0:a 0:b", "0:a 1:c", "0:a 0:b 1:c")},
		{ab, delivered("1:c", "0:a 0:b 1:c", "")},
		{ab, delivered("0:a 0:b 1:c", "0:a 0:b 1:c 1:d", "0:a 1:c")},
		{ab, delivered("", "0:a", "", "1:c", "")},
		{accepted("a", "a"), delivered("0:a", "1:a")},
		{accepted("a", "a"), delivered("0:a 1:a", "1:a")},
		{accepted("ab"), delivered("0:a 0:b", "0:b")},
		// not what the node accepted, or not in its order
		{ab, delivered("0:b")},
		{ab, delivered("0:b 0:a")},
		{ab, delivered("0:a 1:d")},
		{ab, delivered("0:a 0:a")},
		{ab, delivered("0:a 0:b 0:b")},
		{ab, delivered("0:a 0:b 0:a")},
		{ab, delivered("0:c")},
		{ab, delivered("1:a")},
		{ab, delivered("0:x")},
		{ab, delivered("0:")},
		{ab, delivered("0:aa")},
		{ab, delivered("0:a 0:")},
		{ab, delivered("0:a", "0:a", "0:a 1:x")},
		{[][][]byte{{[]byte("ab")}}, delivered("0:a")},
		{[][][]byte{{[]byte("ab")}}, delivered("0:a 0:b")},
		{[][][]byte{{nil}}, delivered("0: 0:")},
		{accepted(""), delivered("0:")},
		{accepted("a", ""), delivered("1:a")},
		// of nobody who accepted
		{nil, delivered("0:a")},
		{nil, delivered("", "0:")},
		{ab, delivered("2:a")},
		{ab, delivered("2:")},
		{ab, delivered("0:a 2:c")},
		{ab, delivered("0:a", "0:a 2:a")},
		{ab, delivered("-1:a")},
		{ab, delivered("-1:")},
		{ab, delivered("-2:a")},
		{ab, delivered("0:a -1:d")},
		{ab, delivered("16:a")},
		{ab, delivered("256:a")},
		{ab, delivered("65536:a")},
		{ab, delivered("4294967296:a")},
		{ab, [][]api.Item{{{From: math.MaxInt, M: []byte("a")}}}},
		{ab, [][]api.Item{{{From: math.MinInt, M: []byte("a")}}}},
	} {
		if l, ok := judge.Total(c.accepted, c.got); ok || len(l) != 0 {
			t.Errorf("Total(%q, %v) = %v, %t", c.accepted, c.got, l, ok)
		}
	}
}

// isBeginning: is each of l the one of whole at its place?
func isBeginning(l, whole []api.Item) bool {
	return len(l) <= len(whole) && sameItems(l, whole[:len(l)])
}

// isOrder: does P19.1 hold of a sequence, by its words?
func isOrder(acc [][][]byte, got [][]api.Item, seq []api.Item) bool {
	for _, l := range got {
		if !isBeginning(l, seq) {
			return false
		}
	}
	for node := -1; node <= 3; node++ {
		var own []api.Item
		if node >= 0 && node < len(acc) {
			for _, m := range acc[node] {
				own = append(own, api.Item{From: node, M: m})
			}
		}
		var of []api.Item
		for _, x := range seq {
			if x.From == node {
				of = append(of, x)
			}
		}
		if !isBeginning(of, own) {
			return false
		}
	}
	return true
}

// sequences: all of so many items of a few.
func sequences(n int) [][]api.Item {
	if n == 0 {
		return [][]api.Item{nil}
	}
	var l [][]api.Item
	for _, s := range sequences(n - 1) {
		for _, x := range items("-1:a 0:a 0:b 1:a 1:b 2:a 2:b") {
			l = append(l, append(slices.Clone(s), x))
		}
	}
	return l
}

// P19.1: held against all sequences, the shortest ones first.
func TestTotalBySearch(t *testing.T) {
	r := rand.New(rand.NewSource(19))
	var all [][]api.Item
	for n := range 4 {
		all = append(all, sequences(n)...)
	}
	counts := [2]int{}
	for range 6000 {
		var acc [][][]byte
		for range r.Intn(4) {
			acc = append(acc, accepted([]string{"", "a", "b", "ab", "aa", "ba", "aba"}[r.Intn(7)])...)
		}
		// mostly beginnings of one list, which is mostly made of what was accepted
		whole := all[r.Intn(len(all))]
		var got [][]api.Item
		for range r.Intn(4) {
			got = append(got, whole[:r.Intn(len(whole)+1)])
			if r.Intn(8) == 0 {
				got[len(got)-1] = all[r.Intn(len(all))]
			}
		}
		at := slices.IndexFunc(all, func(s []api.Item) bool { return isOrder(acc, got, s) })
		l, ok := judge.Total(acc, got)
		if ok != (at >= 0) || ok && !sameItems(l, all[at]) || !ok && len(l) > 0 {
			t.Fatalf("Total(%q, %v) = %v, %t; the search finds %d", acc, got, l, ok, at)
		}
		counts[min(at+1, 1)]++
	}
	if counts[0] < 1000 || counts[1] < 1000 {
		t.Errorf("%d are none, %d are one", counts[0], counts[1])
	}
}

// P1, P19.1: much of all ends, too.
func TestTotalOfMuch(t *testing.T) {
	const many = 200000
	acc := make([][][]byte, many)
	var whole []api.Item
	for i := range many {
		m := []byte(strconv.Itoa(i / 3))
		acc[i%3] = append(acc[i%3], m)
		whole = append(whole, api.Item{From: i % 3, M: m})
	}
	got := make([][]api.Item, many)
	for i := range got {
		got[i] = whole[:i%20]
	}
	got[many/2] = whole
	if l, ok := judge.Total(acc, got); !ok || !sameItems(l, whole) {
		t.Errorf("%d items, %t", len(l), ok)
	}
	last := slices.Clone(whole)
	last[many-1].M = []byte("x")
	got[many/3] = last
	if l, ok := judge.Total(acc, got); ok || len(l) != 0 {
		t.Errorf("two orders: %d items, %t", len(l), ok)
	}
	got[many/2] = last
	if l, ok := judge.Total(acc, got); ok || len(l) != 0 {
		t.Errorf("the last one wasn't accepted: %d items, %t", len(l), ok)
	}
}
