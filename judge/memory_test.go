package judge_test

import (
	"bytes"
	"fmt"
	"slices"
	"strconv"
	"testing"

	"folkmoot/api"
	"folkmoot/judge"
)

// roomy: the same bytes, with others in the room behind them.
func roomy(m []byte) []byte {
	return append(bytes.Clone(m), "rest"...)[:len(m)]
}

// given: what Total is handed, with room behind all lists.
func given() ([][][]byte, [][]api.Item) {
	var acc [][][]byte
	for _, own := range accepted("ab", "cd", "z")[:2] {
		var l [][]byte
		for _, m := range own {
			l = append(l, roomy(m))
		}
		acc = append(acc, append(l, []byte("rest"))[:len(l)])
	}
	var got [][]api.Item
	for _, items := range delivered("0:a 1:c", "0:a 1:c 0:b", "0:a", "0:z")[:3] {
		var l []api.Item
		for _, x := range items {
			l = append(l, api.Item{From: x.From, M: roomy(x.M)})
		}
		got = append(got, append(l, api.Item{From: 9, M: []byte("rest")})[:len(l)])
	}
	return acc, got
}

// told: all of what Total is handed, the room behind it, too.
func told(acc [][][]byte, got [][]api.Item) string {
	s := ""
	for _, l := range acc[:cap(acc)] {
		for _, m := range l[:cap(l)] {
			s += fmt.Sprintf("%q ", m[:cap(m)])
		}
	}
	for _, l := range got[:cap(got)] {
		for _, x := range l[:cap(l)] {
			s += fmt.Sprintf("%d %q ", x.From, x.M[:cap(x.M)])
		}
	}
	return s
}

func scrub(l []api.Item) {
	l = l[:cap(l)]
	for i := range l {
		l[i].From = 77
		scrubBytes(l[i].M)
		l[i].M = []byte("scrubbed")
	}
}

func scrubBytes(m []byte) {
	m = m[:cap(m)]
	for i := range m {
		m[i] ^= 0x55
	}
}

// The rule 'Memory' at P19.1: what is handed in stays as it is, and an answer is new memory.
func TestMemoryOfTotal(t *testing.T) {
	acc, got := given()
	was := told(acc, got)
	want := items("0:a 1:c 0:b")
	first, _ := judge.Total(acc, got)
	second, _ := judge.Total(acc, got)
	scrub(first)
	if !sameItems(second, want) {
		t.Errorf("two answers share memory: %v", second)
	}
	if told(acc, got) != was {
		t.Errorf("%s became %s", was, told(acc, got))
	}
	for _, l := range acc {
		for _, m := range l {
			scrubBytes(m)
		}
	}
	for _, l := range got {
		scrub(l)
	}
	if !sameItems(second, want) {
		t.Errorf("an answer shares memory with an argument: %v", second)
	}
}

// The rule 'Memory' at P19.1: no two messages of an answer share room.
func TestMemoryOfOneAnswer(t *testing.T) {
	m := []byte("m")
	l, ok := judge.Total([][][]byte{{m, m, m}}, [][]api.Item{{{M: m}, {M: m}, {M: m}}})
	if !ok || len(l) != 3 {
		t.Fatalf("Total = %v, %t", l, ok)
	}
	scrubBytes(l[0].M)
	l[1].M = append(l[1].M, "behind"...)
	if string(l[1].M) != "mbehind" || string(l[2].M) != "m" || string(m) != "m" {
		t.Errorf("messages share memory: %v", l)
	}
}

// The rule 'Memory' at P19.2.
func TestMemoryOfViews(t *testing.T) {
	make2 := func() []trace {
		a := trace{viewed(v), sent(v, "a"), received(v, 0, "a"), safe(v, 0, "a"), viewed(w), sent(w, "rest")}[:5]
		b := trace{viewed(v), received(v, 0, "a"), viewed(w), received(w, 5, "rest")}[:3]
		l := []trace{b, a, nil}[:2]
		slices.Reverse(l)
		for i := range l {
			for k := range l[i] {
				l[i][k].M = roomy(l[i][k].M)
			}
		}
		return l
	}
	l := make2()
	text := func(l []trace) string {
		s := ""
		for _, x := range l[:cap(l)] {
			for _, e := range x[:cap(x)] {
				s += fmt.Sprint(e.Kind, e.View, e.From, e.M[:cap(e.M)], " ")
			}
		}
		return s
	}
	if !judge.Views(l) || text(l) != text(make2()) {
		t.Errorf("Views is %t, or %s became %s", judge.Views(l), text(make2()), text(l))
	}
}

// P2: what is answered hangs on the arguments alone, and nothing is kept.
func TestSameAgain(t *testing.T) {
	right := []trace{{viewed(v), sent(v, "a"), received(v, 0, "a")}, {viewed(v), received(v, 0, "a")}}
	wrong := []trace{{viewed(v)}, {viewed(v), received(v, 0, "a")}}
	for range 3 {
		if !judge.Views(right) || judge.Views(wrong) {
			t.Fatal("Views tells otherwise the second time")
		}
		l, ok := judge.Total(accepted("ab"), delivered("0:a"))
		if _, no := judge.Total(accepted("ab"), delivered("0:b")); !ok || no || !sameItems(l, items("0:a")) {
			t.Fatal("Total tells otherwise the second time")
		}
	}
}

// P1, P19.2: many events in a view, many views, and many nodes end, too.
func TestViewsOfMuch(t *testing.T) {
	const many = 100000
	all := view(1, 0, 0xffff)
	long := make([]trace, api.MaxNodes)
	for node := range long {
		l := trace{viewed(all)}
		for i := range many / 10 {
			m := strconv.Itoa(i)
			if i%api.MaxNodes == node {
				l = append(l, sent(all, m))
			}
			l = append(l, received(all, i%api.MaxNodes, m), safe(all, i%api.MaxNodes, m))
		}
		long[node] = l
	}
	last := slices.Clone(long)
	last[7] = slices.Clone(long[7])
	last[7][len(last[7])-2].M = []byte("x")
	short := slices.Clone(long)
	short[15] = short[15][:len(short[15])-2]
	wander := make([]trace, 3)
	for i := range many {
		for node := range wander {
			wander[node] = append(wander[node], viewed(view(uint64(1+i/16), i%16, 7)))
		}
	}
	back := slices.Clone(wander)
	back[2] = append(slices.Clone(back[2]), viewed(view(1, 0, 7)))
	judged(t, []verdict{
		{"many events", true, long},
		{"many events, one of the last is another", false, last},
		{"many events, one has the last no more", false, short},
		{"many views", true, wander},
		{"many views, back to the first", false, back},
		{"many nodes", true, append(slices.Clone(long), make([]trace, 10*many)...)},
		{"many nodes, one with a view", false, append(make([]trace, 10*many), trace{viewed(all)})},
	})
}
