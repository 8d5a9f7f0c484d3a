package cut_test

import (
	"math"
	"math/rand"
	"reflect"
	"slices"
	"testing"

	"folkmoot/api"
	"folkmoot/cut"
)

const maxFloor = 1 << 30

func view(n uint64, p int) api.ViewID {
	return api.ViewID{N: n, P: p}
}

// items: a message of a letter each, of the node 3.
func items(s string) []api.Item {
	var l []api.Item
	for _, x := range []byte(s) {
		l = append(l, api.Item{From: 3, M: []byte{x}})
	}
	return l
}

func state(v api.ViewID, floor int, s string) api.State {
	return api.State{V: v, Floor: floor, Items: items(s)}
}

func sameItems(a, b []api.Item) bool {
	return slices.EqualFunc(a, b, func(x, y api.Item) bool { return x.From == y.From && string(x.M) == string(y.M) })
}

func same(a, b []api.State) bool {
	return slices.EqualFunc(a, b, func(x, y api.State) bool {
		return x.V == y.V && x.Floor == y.Floor && sameItems(x.Items, y.Items)
	})
}

// P6.1
func TestEnd(t *testing.T) {
	for _, c := range []struct {
		s    api.State
		want int
	}{
		{api.State{}, 0}, {state(view(1, 0), 0, "a"), 1}, {state(view(1, 0), 7, ""), 7}, {state(view(1, 0), 2, "cd"), 4},
		{state(view(1, 0), maxFloor, "abc"), maxFloor + 3}, {state(view(0, 0), -2, "a"), -1},
	} {
		if n := cut.End(c.s); n != c.want {
			t.Errorf("End(%v) = %d, want %d", c.s, n, c.want)
		}
	}
}

// from: a state with an item of each of these nodes.
func from(nodes ...int) api.State {
	s := api.State{V: view(1, 0)}
	for _, i := range nodes {
		s.Items = append(s.Items, api.Item{From: i})
	}
	return s
}

// P6.1
func TestForm(t *testing.T) {
	for _, s := range []api.State{
		{}, {Items: []api.Item{}}, state(view(1, 0), 0, ""), state(view(1, 15), 0, "a"), state(view(math.MaxUint64, 15), maxFloor, "ab"),
		state(view(1, 0), 1, ""), state(view(1, 0), maxFloor, ""), from(0), from(15), from(0, 15, 7, 0),
		{V: view(1, 0), Items: []api.Item{{From: 1, M: make([]byte, api.MaxBytes+1)}}},
	} {
		if !cut.Form(s) {
			t.Errorf("%v of %d items is right", s.V, len(s.Items))
		}
	}
	for _, s := range []api.State{
		state(view(0, 0), 1, ""), state(view(0, 0), 0, "a"), state(view(0, 0), 1, "a"), state(view(0, 0), -1, "a"), state(view(0, 0), -1, ""),
		state(view(0, 1), 0, ""), state(view(1, -1), 0, ""), state(view(1, 16), 0, ""), state(view(1, math.MaxInt), 0, "a"), state(view(1, math.MinInt), 0, "a"),
		state(view(1, 0), -1, ""), state(view(1, 0), -1, "ab"), state(view(1, 0), maxFloor+1, ""), state(view(1, 0), math.MaxInt, "a"), state(view(1, 0), math.MinInt, "a"),
		from(-1), from(16), from(0, 16), from(16, 0), from(1, 2, -1, 3), from(255), from(256), from(math.MinInt), from(math.MaxInt),
	} {
		if cut.Form(s) {
			t.Errorf("%v isn't right", s)
		}
	}
}

// P6.1
func TestJoin(t *testing.T) {
	v, w, u := view(1, 0), view(1, 1), view(2, 0)
	for _, c := range []struct{ in, want []api.State }{
		{nil, nil},
		{[]api.State{{}}, nil},
		{[]api.State{{}, {}, state(view(0, 0), 5, "abc")}, nil},
		{[]api.State{state(v, 0, "")}, []api.State{state(v, 0, "")}},
		{[]api.State{state(v, 0, "ab"), state(v, 2, "cd"), {}}, []api.State{state(v, 2, "cd")}},
		{[]api.State{state(v, 2, "cd"), state(v, 0, "ab")}, []api.State{state(v, 2, "cd")}},
		{[]api.State{state(v, 3, ""), state(v, 1, "ab"), state(v, 0, "abc")}, []api.State{state(v, 3, "")}},
		{[]api.State{state(v, 0, "a"), state(v, 0, "abc"), state(v, 1, "bc"), state(v, 3, "")}, []api.State{state(v, 0, "abc")}},
		{[]api.State{state(v, maxFloor, ""), state(v, 0, "abcdefgh")}, []api.State{state(v, maxFloor, "")}},
		{[]api.State{state(u, 0, "x"), {}, state(w, 1, ""), state(v, 0, "a"), state(w, 0, "yz"), state(u, 0, "y")}, []api.State{state(v, 0, "a"), state(w, 0, "yz"), state(u, 0, "x")}},
		{[]api.State{state(view(math.MaxUint64, 0), 0, ""), state(view(1<<63, 0), 0, ""), state(view(math.MaxInt64, 15), 0, "")}, []api.State{state(view(math.MaxInt64, 15), 0, ""), state(view(1<<63, 0), 0, ""), state(view(math.MaxUint64, 0), 0, "")}},
	} {
		if l := cut.Join(c.in); !same(l, c.want) {
			t.Errorf("Join(%v) = %v, want %v", c.in, l, c.want)
		}
	}
}

// P6.1: what is joined stays as it is, if it is joined again.
func TestJoinByAModel(t *testing.T) {
	r := rand.New(rand.NewSource(6))
	for range 20000 {
		l := make([]api.State, r.Intn(20))
		for i := range l {
			l[i] = state(view(uint64(r.Intn(3)), r.Intn(2)), r.Intn(4), "abcd"[:r.Intn(4)])
		}
		var want []api.State
		for _, v := range []api.ViewID{view(1, 0), view(1, 1), view(2, 0), view(2, 1)} {
			best := -1
			for i, s := range l {
				if s.V == v && (best < 0 || s.Floor+len(s.Items) > l[best].Floor+len(l[best].Items)) {
					best = i
				}
			}
			if best >= 0 {
				want = append(want, l[best])
			}
		}
		got := cut.Join(l)
		if !same(got, want) {
			t.Fatalf("Join(%v) = %v, want %v", l, got, want)
		}
		if !same(cut.Join(got), got) {
			t.Fatalf("Join of what is joined: %v", got)
		}
	}
}

// P1: many views end, too.
func TestJoinOfManyViews(t *testing.T) {
	const n = 200000
	l := make([]api.State, n)
	for i := range l {
		l[i] = state(view(uint64(1+(n-i)/2), 0), i%2, "a")
	}
	got := cut.Join(l)
	if len(got) != n/2+1 || got[0].V != view(1, 0) || !slices.IsSortedFunc(got, func(a, b api.State) int { return int(a.V.N) - int(b.V.N) }) {
		t.Errorf("%d states", len(got))
	}
}

// P6.1
func TestRest(t *testing.T) {
	v, w := view(1, 0), view(1, 1)
	l := []api.State{state(v, 2, "cd"), state(w, 0, "xyz"), state(view(7, 3), 4, ""), state(w, 1, "double")}
	for _, c := range []struct {
		v    api.ViewID
		had  int
		want string
		e    api.Errno
	}{
		{v, 2, "cd", api.OK}, {v, 3, "d", api.OK}, {v, 4, "", api.OK},
		{w, 0, "xyz", api.OK}, {w, 1, "yz", api.OK}, {w, 3, "", api.OK}, {view(7, 3), 4, "", api.OK},
		{v, 1, "", api.ErrArg}, {v, 0, "", api.ErrArg}, {v, -1, "", api.ErrArg}, {v, 5, "", api.ErrArg}, {v, math.MaxInt, "", api.ErrArg}, {v, math.MinInt, "", api.ErrArg},
		{w, 4, "", api.ErrArg}, {w, -1, "", api.ErrArg}, {view(7, 3), 3, "", api.ErrArg}, {view(7, 3), 5, "", api.ErrArg},
		{view(9, 0), 0, "", api.ErrNone}, {view(7, 0), 4, "", api.ErrNone}, {view(9, 0), -1, "", api.ErrNone}, {view(1, 2), math.MaxInt, "", api.ErrNone}, {view(1, -1), 0, "", api.ErrNone},
		{view(0, 0), 0, "", api.OK}, {view(0, 0), 5, "", api.OK}, {view(0, 0), -1, "", api.OK}, {view(0, 0), math.MinInt, "", api.OK},
	} {
		if x, e := cut.Rest(l, c.v, c.had); !sameItems(x, items(c.want)) || e != c.e {
			t.Errorf("Rest of %v behind %d = %v, %d, want %s, %d", c.v, c.had, x, e, c.want, c.e)
		}
	}
	if x, e := cut.Rest(nil, v, 0); len(x) != 0 || e != api.ErrNone {
		t.Errorf("Rest of nothing = %v, %d", x, e)
	}
	if x, e := cut.Rest(nil, api.ViewID{}, 0); len(x) != 0 || e != api.OK {
		t.Errorf("Rest of nothing, of no view = %v, %d", x, e)
	}
	// Join answers no state of none's view; if one is there nevertheless, nothing is answered of it.
	if x, e := cut.Rest([]api.State{state(view(0, 0), 0, "ab")}, api.ViewID{}, 0); len(x) != 0 || e != api.OK {
		t.Errorf("Rest of no view = %v, %d", x, e)
	}
}

// P6.1: a number whose N is 0 is none's, whatever its P is: a state of it isn't joined, nothing is answered of it, and it isn't right, if P isn't 0.
func TestNumbersOfNoView(t *testing.T) {
	one, two := state(view(1, 0), 2, "c"), state(view(2, 1), 0, "")
	for _, p := range []int{math.MinInt, -1, 0, 1, 2, api.MaxNodes - 1, api.MaxNodes, math.MaxInt} {
		none := view(0, p)
		for _, s := range []api.State{state(none, 0, ""), state(none, 0, "ab"), state(none, 5, ""), state(none, maxFloor, "ab")} {
			if l := cut.Join([]api.State{s}); len(l) != 0 {
				t.Errorf("Join of a state of %v = %v", none, l)
			}
			if l := cut.Join([]api.State{s, two, s, one, s}); !same(l, []api.State{one, two}) {
				t.Errorf("Join with states of %v = %v", none, l)
			}
			for _, had := range []int{math.MinInt, -1, 0, 1, 2, 5, math.MaxInt} {
				for _, l := range [][]api.State{nil, {one, two}, {s}, {s, one}} {
					if x, e := cut.Rest(l, none, had); len(x) != 0 || e != api.OK {
						t.Errorf("Rest(%v, %v, %d) = %v, %d", l, none, had, x, e)
					}
				}
			}
			if right := p == 0 && cut.End(s) == 0; cut.Form(s) != right {
				t.Errorf("Form(%v) = %v", s, !right)
			}
		}
	}
	// A P of 0, or one that isn't right, makes no number none's while its N isn't 0.
	for _, v := range []api.ViewID{view(1, 0), view(1, -1), view(1, api.MaxNodes), view(math.MaxUint64, 0)} {
		s := state(v, 1, "b")
		if l := cut.Join([]api.State{s}); !same(l, []api.State{s}) {
			t.Errorf("Join of a state of %v = %v", v, l)
		}
		if x, e := cut.Rest(nil, v, 0); len(x) != 0 || e != api.ErrNone {
			t.Errorf("Rest of no states, of %v = %v, %d", v, x, e)
		}
	}
}

// P6.1: Join and Rest together: who had the beginning of what others had gets what they had behind it, and so have all the same.
func TestRestFillsUp(t *testing.T) {
	const all = "abcdefghij"
	r := rand.New(rand.NewSource(61))
	v := view(4, 2)
	for range 5000 {
		// No floor is above what another has: what is safe all have.
		floor := r.Intn(5)
		var l []api.State
		had := make([]int, 1+r.Intn(5))
		most := 0
		for i := range had {
			had[i] = floor + r.Intn(len(all)-floor+1)
			low := r.Intn(floor + 1)
			l = append(l, state(v, low, all[low:had[i]]))
			most = max(most, had[i])
		}
		joined := cut.Join(l)
		for _, n := range had {
			rest, e := cut.Rest(joined, v, n)
			if e != api.OK || !sameItems(rest, items(all[n:most])) {
				t.Fatalf("Rest(%v, %d) = %v, %d", joined, n, rest, e)
			}
		}
	}
}

// P1: numbers that aren't right.
func TestWrongStates(t *testing.T) {
	for _, floor := range []int{math.MinInt, math.MinInt + 1, -1, 0, maxFloor, math.MaxInt - 1, math.MaxInt} {
		for _, s := range []string{"", "a", "abc"} {
			l := []api.State{state(view(1, -5), floor, s), state(view(1, -5), 0, "ab"), state(view(0, 7), floor, s)}
			cut.End(l[0])
			cut.Form(l[0])
			if n := len(cut.Join(l)); n != 1 {
				t.Errorf("Join has %d", n)
			}
			for _, had := range []int{math.MinInt, math.MinInt + 1, -1, 0, 1, 2, maxFloor, maxFloor + 1, math.MaxInt - 1, math.MaxInt} {
				x, e := cut.Rest(l, view(1, -5), had)
				if e != api.OK && (e != api.ErrArg || len(x) != 0) || len(x) > len(s) {
					t.Errorf("Rest of the floor %d, %q behind %d = %v, %d", floor, s, had, x, e)
				}
			}
		}
	}
}

// scrubItems: writes over all that the items have, their spare room too.
func scrubItems(l []api.Item) {
	l = l[:cap(l)]
	for i := range l {
		m := l[i].M[:cap(l[i].M)]
		for k := range m {
			m[k] = '!'
		}
		l[i] = api.Item{From: 9, M: []byte("!")}
	}
}

func scrub(l []api.State) {
	l = l[:cap(l)]
	for i := range l {
		scrubItems(l[i].Items)
		l[i] = state(view(99, 9), 9, "?")
	}
}

// lists: states, of which all lists have things in the room behind them.
func lists() []api.State {
	l := []api.State{state(view(2, 0), 0, "abcXY"), state(view(1, 0), 2, "cdeXY"), state(view(1, 0), 1, "bXY"), state(view(2, 0), 0, "aXY"), {}, state(view(3, 0), 1, "Z")}
	for i := range l {
		for k := range l[i].Items {
			l[i].Items[k].M = append(l[i].Items[k].M, "room"...)[:1]
		}
		l[i].Items = l[i].Items[:max(0, len(l[i].Items)-2)]
	}
	return l[:len(l)-1]
}

// whole: the states with their spare room.
func whole(l []api.State) []api.State {
	l = slices.Clone(l[:cap(l)])
	for i := range l {
		l[i].Items = slices.Clone(l[i].Items[:cap(l[i].Items)])
		for k := range l[i].Items {
			m := l[i].Items[k].M
			l[i].Items[k].M = slices.Clone(m[:cap(m)])
		}
	}
	return l
}

// The rule 'Memory' at P6.1.
func TestAnswersAreNewMemory(t *testing.T) {
	l := lists()
	before := whole(l)
	joined := cut.Join(l)
	want := []api.State{state(view(1, 0), 2, "cde"), state(view(2, 0), 0, "abc")}
	scrub(cut.Join(l))
	if !same(joined, want) {
		t.Errorf("Join = %v", joined)
	}
	rest, _ := cut.Rest(l, view(1, 0), 3)
	again, _ := cut.Rest(l, view(1, 0), 3)
	scrubItems(again)
	if !sameItems(rest, items("de")) {
		t.Errorf("Rest = %v", rest)
	}
	none, _ := cut.Rest(l, view(1, 0), 5)
	scrubItems(none)
	scrubItems(rest)
	cut.Form(l[0])
	cut.End(l[0])
	scrub(joined)
	if !reflect.DeepEqual(whole(l), before) {
		t.Errorf("an argument was changed: %v", whole(l))
	}
}

// The rule 'Memory' at P6.1: no two lists of one answer share memory, even where those handed in did.
func TestListsOfOneAnswer(t *testing.T) {
	m := []byte("m")
	shared := []api.Item{{M: m}, {M: m}}
	l := []api.State{{V: view(1, 0), Items: shared}, {V: view(2, 0), Items: shared}}
	joined := cut.Join(l)
	joined[0].Items[0].M[0] = 'x'
	joined[0].Items[1].From = 5
	if string(joined[0].Items[1].M) != "m" || joined[1].Items[1].From != 0 || string(joined[1].Items[0].M) != "m" {
		t.Errorf("Join = %v", joined)
	}
	rest, _ := cut.Rest(l, view(1, 0), 0)
	rest[0].M[0] = 'y'
	if string(rest[1].M) != "m" || string(m) != "m" {
		t.Errorf("Rest = %v", rest)
	}
}
