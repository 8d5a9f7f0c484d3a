package judge_test

import (
	"math"
	"strconv"
	"testing"

	"folkmoot/api"
	"folkmoot/judge"
)

func view(n uint64, p int, set uint16) api.View {
	return api.View{ID: api.ViewID{N: n, P: p}, Set: set}
}

func viewed(v api.View) api.Event {
	return api.Event{Kind: api.EView, View: v}
}

func sent(v api.View, m string) api.Event {
	return api.Event{Kind: api.ESend, View: v, M: []byte(m)}
}

func received(v api.View, from int, m string) api.Event {
	return api.Event{Kind: api.ERecv, View: v, From: from, M: []byte(m)}
}

func safe(v api.View, from int, m string) api.Event {
	return api.Event{Kind: api.ESafe, View: v, From: from, M: []byte(m)}
}

type trace = []api.Event

// verdict is what Views must answer of the traces of all nodes.
type verdict struct {
	name   string
	want   bool
	traces []trace
}

func judged(t *testing.T, l []verdict) {
	t.Helper()
	for _, c := range l {
		if judge.Views(c.traces) != c.want {
			t.Errorf("%s: Views is %t", c.name, !c.want)
		}
	}
}

var (
	v = view(1, 0, 3)
	w = view(2, 1, 3)
	u = view(3, 0, 3)
)

// P19.2: "Each node's EViews have numbers that rise, N above 0, and sets that have the node".
func TestViewsOfANode(t *testing.T) {
	one := func(l ...api.View) []trace {
		var x trace
		for _, v := range l {
			x = append(x, viewed(v))
		}
		return []trace{x}
	}
	with := func(node int, x ...api.Event) []trace {
		l := make([]trace, node+1)
		l[node] = x
		return l
	}
	judged(t, []verdict{
		{"no node", true, nil},
		{"no node in an empty list", true, []trace{}},
		{"nodes without events", true, []trace{nil, {}, nil}},
		{"more nodes than may be, without events", true, make([]trace, 40)},
		{"one view", true, one(view(1, 0, 1))},
		{"greater counters", true, one(view(1, 0, 1), view(2, 0, 1), view(300, 0, 1), view(math.MaxUint64, 0, 1))},
		{"greater P beside the same counter", true, one(view(1, 0, 1), view(1, 1, 1), view(1, 15, 1))},
		{"a greater counter, a lesser P", true, one(view(1, 15, 1), view(2, 0, 1))},
		{"counters above those of signed numbers", true, one(view(1<<63-1, 0, 1), view(1<<63, 0, 1), view(1<<63+1, 0, 1))},
		{"the same number twice", false, one(view(1, 0, 1), view(1, 0, 1))},
		{"the same number with another set", false, one(view(1, 0, 1), view(1, 0, 3))},
		{"a lesser counter", false, one(view(2, 0, 1), view(1, 0, 1))},
		{"a lesser counter with a greater P", false, one(view(2, 0, 1), view(1, 15, 1))},
		{"a lesser P", false, one(view(1, 1, 1), view(1, 0, 1))},
		{"rising, then less than the last one", false, one(view(1, 0, 1), view(3, 0, 1), view(2, 0, 1))},
		{"back to the first one", false, one(view(1, 0, 1), view(3, 0, 1), view(1, 0, 1))},
		{"a counter that came round", false, one(view(math.MaxUint64, 0, 1), view(1, 0, 1))},
		{"none's number", false, one(view(0, 0, 1))},
		{"N is 0, P isn't", false, one(view(0, 1, 1))},
		{"N is 0, the greatest P", false, one(view(0, math.MaxInt, 1))},
		{"N is 0 behind a view", false, one(view(1, 0, 1), view(0, 5, 1))},
		{"numbers are asked for no more than that they rise", true, one(view(1, -1, 1), view(1, 0, 1), view(1, 16, 1), view(2, math.MinInt, 1))},
		{"the empty set", false, one(view(1, 0, 0))},
		{"the set of another node", false, one(view(1, 0, 2))},
		{"all but the node", false, one(view(1, 0, 0xfffe))},
		{"all nodes", true, one(view(1, 0, 0xffff))},
		{"a set without the node, later", false, one(view(1, 0, 1), view(2, 0, 2))},
		{"the greatest node", true, with(15, viewed(view(1, 0, 0x8000)))},
		{"the greatest node, not in it", false, with(15, viewed(view(1, 0, 0x7fff)))},
		{"a node beyond the greatest", false, with(16, viewed(view(1, 0, 0xffff)))},
		{"a node whose bit comes round", false, with(32, viewed(view(1, 0, 1)))},
	})
}

// P19.2: "every other event stands behind one, and names the last one's View; its Kind is one of the four".
func TestViewsOfEvents(t *testing.T) {
	a, b := view(1, 0, 1), view(2, 0, 1)
	none := api.View{}
	var l []verdict
	for _, kind := range []byte{api.ESend, api.ERecv, api.ESafe, 0, 5, 6, 128, 255} {
		e := func(v api.View) api.Event { return api.Event{Kind: kind, View: v, M: []byte("m")} }
		name := "kind " + strconv.Itoa(int(kind)) + ": "
		// what makes the event right, where it can be
		before := func(v api.View) trace {
			return map[byte]trace{api.ERecv: {sent(v, "m")}, api.ESafe: {sent(v, "m"), received(v, 0, "m")}}[kind]
		}
		in := func(first api.Event, v api.View, x ...api.Event) []trace {
			return []trace{append(append(trace{first}, before(v)...), x...)}
		}
		right := kind >= api.ESend && kind <= api.ESafe
		l = append(l,
			verdict{name + "in its view", right, in(viewed(a), a, e(a))},
			verdict{name + "ahead of all views", false, []trace{append(append(before(a), e(a)), viewed(a))}},
			verdict{name + "without a view", false, []trace{append(before(a), e(a))}},
			verdict{name + "of none without a view", false, []trace{append(before(none), e(none))}},
			verdict{name + "of none in a view", false, in(viewed(a), a, e(none))},
			verdict{name + "of the view before", false, in(viewed(a), a, viewed(b), e(a))},
			verdict{name + "of the next view", false, in(viewed(a), a, e(b), viewed(b))},
			verdict{name + "of another counter", false, in(viewed(a), a, e(view(2, 0, 1)))},
			verdict{name + "of another P", false, in(viewed(a), a, e(view(1, 1, 1)))},
			verdict{name + "of another set", false, in(viewed(a), a, e(view(1, 0, 3)))},
			verdict{name + "of a node with no view of its own", false, []trace{append(trace{viewed(v)}, before(v)...), {e(v)}}},
		)
	}
	judged(t, l)
}

// P19.2: "No two nodes have views of one number and unlike sets".
func TestViewsOfOneNumber(t *testing.T) {
	judged(t, []verdict{
		{"one set", true, []trace{{viewed(v)}, {viewed(v)}}},
		{"unlike sets", false, []trace{{viewed(view(1, 0, 3))}, {viewed(view(1, 0, 7))}}},
		{"unlike sets that have no node in common", false, []trace{{viewed(view(1, 0, 1))}, {viewed(view(1, 0, 2))}}},
		{"unlike counters", true, []trace{{viewed(view(1, 0, 3))}, {viewed(view(2, 0, 7))}}},
		{"unlike P", true, []trace{{viewed(view(1, 0, 3))}, {viewed(view(1, 1, 7))}}},
		{"unlike sets, not of the last ones", false, []trace{{viewed(view(1, 0, 1)), viewed(u)}, {viewed(view(1, 0, 3)), viewed(u)}}},
		{"unlike sets, the last one's and an earlier one's", false, []trace{{viewed(view(1, 0, 1)), viewed(u)}, {viewed(view(3, 0, 7))}}},
		{"the third one's is unlike", false, []trace{{viewed(view(1, 0, 7))}, {viewed(view(1, 0, 7))}, {viewed(view(1, 0, 6))}}},
		{"the second one hasn't it", false, []trace{{viewed(view(1, 0, 7))}, nil, {viewed(view(1, 0, 6))}}},
		{"a set that has nodes without events", true, []trace{{viewed(view(1, 0, 0xffff))}}},
	})
}

// P19.2: "What a node receives (ERecv) in a view, and what another one receives in it: the one is a beginning of the other".
func TestViewsOfOneOrder(t *testing.T) {
	v := view(1, 0, 7)
	from0 := trace{viewed(v), sent(v, "a"), sent(v, "b")}
	from1 := trace{viewed(v), sent(v, "c"), sent(v, "a")}
	of := func(a, b, c string) []trace {
		l := []trace{from0, from1, {viewed(v)}}
		for i, s := range []string{a, b, c} {
			l[i] = append(trace{}, l[i]...)
			for _, x := range items(s) {
				l[i] = append(l[i], received(v, x.From, string(x.M)))
			}
		}
		return l
	}
	judged(t, []verdict{
		{"nothing", true, of("", "", "")},
		{"all the same", true, of("0:a 1:c 0:b", "0:a 1:c 0:b", "0:a 1:c 0:b")},
		{"beginnings", true, of("0:a", "0:a 1:c 0:b", "0:a 1:c")},
		{"beginnings, the first has the most", true, of("0:a 1:c 0:b", "", "0:a 1:c")},
		{"unlike at once", false, of("0:a", "1:c", "")},
		{"unlike at the second", false, of("0:a 1:c", "0:a 0:b", "0:a")},
		{"the third is unlike the first alone", false, of("0:a 1:c", "", "0:a 0:b")},
		{"the third is unlike the second alone", false, of("", "0:a 1:c", "0:a 0:b")},
		{"the shortest is unlike", false, of("0:a 1:c 0:b", "0:a 1:c", "1:c")},
		{"two unlike ones behind one that both begin with", false, of("0:a", "0:a 1:c 1:a", "0:a 1:c 0:b")},
		{"the same otherwise put", false, of("0:a 1:c", "1:c 0:a", "")},
		{"unlike nodes, the same message", false, of("0:a 1:c 0:b", "0:a 1:c 1:a", "")},
		{"one is left out", false, of("0:a 1:c", "1:c", "")},
		{"unlike orders in unlike views", true, []trace{
			{viewed(view(1, 0, 3)), sent(view(1, 0, 3), "a"), received(view(1, 0, 3), 0, "a")},
			{viewed(view(1, 1, 3)), sent(view(1, 1, 3), "b"), received(view(1, 1, 3), 1, "b")},
		}},
		{"unlike orders in the first of two views", false, []trace{
			{viewed(v), sent(v, "a"), received(v, 0, "a"), viewed(view(2, 0, 7))},
			{viewed(v), sent(v, "b"), received(v, 1, "b"), viewed(view(3, 0, 7))},
		}},
	})
}

// P19.2: "Of what a node receives those From each node are, in their order, a beginning of what that one sent (ESend) in that view".
func TestViewsOfWhatWasSent(t *testing.T) {
	gets := func(s string, x ...api.Event) trace {
		l := append(trace{viewed(v)}, x...)
		for _, i := range items(s) {
			l = append(l, received(v, i.From, string(i.M)))
		}
		return l
	}
	ab := trace{viewed(v), sent(v, "a"), sent(v, "b")}
	judged(t, []verdict{
		{"all", true, []trace{ab, gets("0:a 0:b")}},
		{"a beginning", true, []trace{ab, gets("0:a")}},
		{"nothing", true, []trace{ab, gets("")}},
		{"of both", true, []trace{ab, gets("0:a 1:c 0:b", sent(v, "c"))}},
		{"the own ones", true, []trace{gets("0:a", sent(v, "a"))}},
		{"what was sent, as told behind it", true, []trace{{viewed(v), received(v, 0, "a"), sent(v, "a")}}},
		{"the same one twice, as sent", true, []trace{{viewed(v), sent(v, "a"), sent(v, "a")}, gets("0:a 0:a")}},
		{"an empty one", true, []trace{{viewed(v), sent(v, "")}, gets("0:")}},
		{"the second one first", false, []trace{ab, gets("0:b")}},
		{"otherwise put", false, []trace{ab, gets("0:b 0:a")}},
		{"twice, but sent once", false, []trace{ab, gets("0:a 0:a")}},
		{"more than were sent", false, []trace{ab, gets("0:a 0:b 0:b")}},
		{"one that wasn't sent", false, []trace{ab, gets("0:c")}},
		{"an empty one that wasn't sent", false, []trace{ab, gets("0:")}},
		{"one's first bytes", false, []trace{{viewed(v), sent(v, "ab")}, gets("0:a")}},
		{"as the other one's", false, []trace{ab, gets("1:a")}},
		{"the own one that wasn't sent", false, []trace{gets("0:a")}},
		{"of both, the second's wrong", false, []trace{ab, gets("0:a 1:d 0:b", sent(v, "c"))}},
		{"sent in the view before", false, []trace{{viewed(v), sent(v, "a"), viewed(w)}, {viewed(v), viewed(w), received(w, 0, "a")}}},
		{"sent in the view behind", false, []trace{{viewed(v), viewed(w), sent(w, "a")}, {viewed(v), received(v, 0, "a")}}},
		{"sent in both views", true, []trace{{viewed(v), sent(v, "a"), viewed(w), sent(w, "a")}, {viewed(v), viewed(w), received(w, 0, "a")}}},
		{"of a node that hasn't the view", false, []trace{nil, gets("0:a")}},
		{"of a node that has another view", false, []trace{{viewed(w), sent(w, "a")}, gets("0:a")}},
		{"of a node that isn't there", false, []trace{ab, gets("2:a")}},
		{"of a node of the set that isn't there", false, []trace{{viewed(view(1, 0, 5)), received(view(1, 0, 5), 2, "a")}}},
		{"of a node beyond the greatest", false, []trace{ab, gets("16:a")}},
		{"of a number below 0", false, []trace{ab, gets("-1:a")}},
		{"of the greatest number", false, []trace{ab, {viewed(v), received(v, math.MaxInt, "a")}}},
		{"of the least number", false, []trace{ab, {viewed(v), received(v, math.MinInt, "a")}}},
	})
}

// P19.2: "A node's ESafes in a view are a beginning of its ERecvs there, each behind its own".
func TestViewsOfWhatIsSafe(t *testing.T) {
	s := view(1, 0, 1)
	in := func(x ...api.Event) []trace {
		return []trace{append(trace{viewed(s), sent(s, "a"), sent(s, "b"), sent(s, "a")}, x...)}
	}
	a, b := received(s, 0, "a"), received(s, 0, "b")
	sa, sb := safe(s, 0, "a"), safe(s, 0, "b")
	judged(t, []verdict{
		{"none", true, in(a, b)},
		{"one of two", true, in(a, b, sa)},
		{"one, then the other", true, in(a, sa, b, sb)},
		{"both behind both", true, in(a, b, sa, sb)},
		{"one like an earlier one", true, in(a, sa, b, sb, a, sa)},
		{"ahead of its own", false, in(sa, a)},
		{"the second ahead of its own", false, in(a, sa, sb, b)},
		{"the third ahead of its own, behind one like it", false, in(a, b, sa, sb, sa, a)},
		{"not received", false, in(sa)},
		{"received by nobody, and not sent", false, []trace{{viewed(s), sa}}},
		{"twice", false, in(a, sa, sa)},
		{"the second first", false, in(a, b, sb)},
		{"otherwise put", false, in(a, b, sb, sa)},
		{"another message", false, in(a, safe(s, 0, "x"))},
		{"an empty message", false, in(a, safe(s, 0, ""))},
		{"another node's", false, in(a, safe(s, 1, "a"))},
		{"nobody's", false, in(a, safe(s, -1, "a"))},
		{"of the view before", false, []trace{{viewed(s), sent(s, "a"), a, viewed(view(2, 0, 1)), safe(view(2, 0, 1), 0, "a")}}},
		{"more than in the view before", true, []trace{{
			viewed(s), sent(s, "a"), a, viewed(view(2, 0, 1)), sent(view(2, 0, 1), "b"), received(view(2, 0, 1), 0, "b"), safe(view(2, 0, 1), 0, "b"),
		}}},
	})
}

// P19.2: "If a node has as many ESafes in a view as k, each node of its set has that view, and k or more ERecvs in it".
func TestViewsOfWhatIsSafeAtAll(t *testing.T) {
	v := view(1, 0, 7)
	from0 := func(n int, x ...api.Event) trace {
		return append(trace{viewed(v), sent(v, "a"), sent(v, "b"), received(v, 0, "a"), received(v, 0, "b")}[:3+n], x...)
	}
	gets := func(n int, x ...api.Event) trace {
		return append(append(trace{viewed(v)}, trace{received(v, 0, "a"), received(v, 0, "b")}[:n]...), x...)
	}
	a, b := safe(v, 0, "a"), safe(v, 0, "b")
	other := view(9, 1, 2)
	judged(t, []verdict{
		{"none is safe, and nobody else has the view", true, []trace{from0(2)}},
		{"none is safe, and one hasn't the view", true, []trace{from0(2), nil, gets(1)}},
		{"as many as all have", true, []trace{from0(2, a, b), gets(2), gets(2)}},
		{"all know of them", true, []trace{from0(2, a, b), gets(2, a, b), gets(2, a, b)}},
		{"fewer than all have", true, []trace{from0(2, a), gets(1), gets(2, a)}},
		{"received behind that, and in the next view", true, []trace{from0(1, a), gets(1, viewed(other)), gets(1)}},
		{"one has too few", false, []trace{from0(2, a, b), gets(2), gets(1)}},
		{"the least has none", false, []trace{{viewed(v), sent(v, "a")}, gets(1, a), gets(1)}},
		{"one who has none", false, []trace{from0(1, a), gets(0), gets(1)}},
		{"one who knows of fewer is not enough", false, []trace{from0(2, a, b), gets(1, a), gets(2, a, b)}},
		{"a node without events", false, []trace{from0(1, a), nil, gets(1)}},
		{"a node that isn't there", false, []trace{from0(1, a), gets(1)}},
		{"a node that has another view", false, []trace{from0(1, a), gets(1), {viewed(view(2, 2, 4))}}},
		{"a node of another number and the same messages", false, []trace{from0(1, a), gets(1), {viewed(view(1, 2, 4)), sent(view(1, 2, 4), "a"), received(view(1, 2, 4), 2, "a")}}},
		{"a node that isn't of the set needs none", true, []trace{
			{viewed(view(5, 0, 5)), sent(view(5, 0, 5), "a"), received(view(5, 0, 5), 0, "a"), safe(view(5, 0, 5), 0, "a")},
			{viewed(other)},
			{viewed(view(5, 0, 5)), received(view(5, 0, 5), 0, "a")},
		}},
		{"the greatest node", false, []trace{{
			viewed(view(1, 0, 0x8001)), sent(view(1, 0, 0x8001), "a"), received(view(1, 0, 0x8001), 0, "a"), safe(view(1, 0, 0x8001), 0, "a"),
		}}},
		{"in the first of two views", false, []trace{from0(1, a, viewed(view(2, 0, 1))), gets(1, viewed(view(2, 1, 2))), gets(0, viewed(view(2, 2, 4)))}},
	})
}

// P19.2: "Two nodes that go from one view to one other have as many ERecvs in the first".
func TestViewsOfThoseWhoGoOn(t *testing.T) {
	from0 := func(n int, x ...api.Event) trace {
		return append(trace{viewed(v), sent(v, "a"), sent(v, "b"), received(v, 0, "a"), received(v, 0, "b")}[:3+n], x...)
	}
	gets := func(n int, x ...api.Event) trace {
		return append(append(trace{viewed(v)}, trace{received(v, 0, "a"), received(v, 0, "b")}[:n]...), x...)
	}
	wide := func(l ...trace) []trace {
		for _, x := range l {
			for i := range x {
				x[i].View.Set = 7
			}
		}
		return l
	}
	judged(t, []verdict{
		{"the same", true, []trace{from0(2, viewed(w)), gets(2, viewed(w))}},
		{"none", true, []trace{from0(0, viewed(w)), gets(0, viewed(w))}},
		{"one more", false, []trace{from0(2, viewed(w)), gets(1, viewed(w))}},
		{"one less", false, []trace{from0(1, viewed(w)), gets(2, viewed(w))}},
		{"one against none", false, []trace{from0(1, viewed(w)), gets(0, viewed(w))}},
		{"both stay", true, []trace{from0(2), gets(1)}},
		{"one stays", true, []trace{from0(2, viewed(w)), gets(1)}},
		{"the other one stays", true, []trace{from0(2), gets(1, viewed(w))}},
		{"into unlike views", true, []trace{from0(2, viewed(w)), gets(1, viewed(u))}},
		{"into unlike views of one counter", true, []trace{from0(2, viewed(view(2, 0, 1))), gets(1, viewed(view(2, 1, 2)))}},
		{"into one view, but one of them by another one", true, []trace{from0(2, viewed(w)), gets(1, viewed(view(1, 1, 2)), viewed(w))}},
		{"into one view from unlike ones", true, []trace{{viewed(view(1, 0, 1)), sent(view(1, 0, 1), "a"), received(view(1, 0, 1), 0, "a"), viewed(w)}, {viewed(view(1, 1, 2)), viewed(w)}}},
		{"from none into one", true, []trace{from0(2), gets(0)}},
		{"further on, later", false, []trace{from0(2, viewed(w), sent(w, "x"), received(w, 0, "x"), viewed(u)), gets(2, viewed(w), viewed(u))}},
		{"further on, earlier", false, []trace{from0(2, viewed(w), viewed(u)), gets(1, viewed(w), viewed(u))}},
		{"the third against the first", false, wide(from0(2, viewed(w)), gets(1), gets(1, viewed(w)))},
		{"the third against the second", false, wide(from0(2), gets(2, viewed(w)), gets(1, viewed(w)))},
		{"two go on together, and two others", true, wide(from0(2, viewed(w)), gets(1, viewed(u)), gets(2, viewed(w)))},
	})
}

// P19.2: what an event has beside what its kind names isn't asked for.
func TestViewsLeavesOthersOut(t *testing.T) {
	a := trace{viewed(v), sent(v, "x"), received(v, 0, "x")}
	a[0].From, a[0].M = 99, []byte("m")
	a[1].From = -5
	if !judge.Views([]trace{a, {viewed(v)}}) {
		t.Error("a view's From and M, or a sent one's From, matter")
	}
}
