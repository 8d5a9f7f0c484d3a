package link_test

import (
	"math"
	"math/rand"
	"runtime"
	"slices"
	"testing"
	"weak"

	"folkmoot/api"
	"folkmoot/link"
)

var epoch = api.ViewID{N: 7, P: 3}

func endOf[S, R any](t *testing.T, most, window int, l ...S) *link.Link[S, R] {
	t.Helper()
	k, e := link.New[S, R](epoch, most, window)
	if k == nil || e != api.OK {
		t.Fatalf("New(%d, %d) = %v, %d", most, window, k, e)
	}
	for _, x := range l {
		put(t, k, x, api.OK)
	}
	return k
}

func put[S, R any](t *testing.T, k *link.Link[S, R], x S, want api.Errno) {
	t.Helper()
	if e := k.Put(x); e != want {
		t.Fatalf("Put(%v) = %d, want %d", x, e, want)
	}
}

func take[S any, R comparable](t *testing.T, k *link.Link[S, R], want R, wantErr api.Errno) {
	t.Helper()
	if x, e := k.Take(); x != want || e != wantErr {
		t.Fatalf("Take = %v, %d, want %v, %d", x, e, want, wantErr)
	}
}

// takesAll: these wait, in this order, and no other.
func takesAll[S any, R comparable](t *testing.T, k *link.Link[S, R], want ...R) {
	t.Helper()
	for _, x := range want {
		take(t, k, x, api.OK)
	}
	var none R
	take(t, k, none, api.ErrNone)
}

func in[S, R any](t *testing.T, k *link.Link[S, R], p link.Packet[R], want int, wantErr api.Errno) {
	t.Helper()
	if n, e := k.In(p); n != want || e != wantErr {
		t.Fatalf("In(%v) = %d, %d, want %d, %d", p, n, e, want, wantErr)
	}
}

func packet[T any](base, ack uint64, l ...T) link.Packet[T] {
	return link.Packet[T]{Epoch: epoch, Base: base, Items: l, Ack: ack}
}

// sends: what goes out is these things, behind those that are known to have come, and word of what has come.
func sends[S comparable, R any](t *testing.T, k *link.Link[S, R], acked, got uint64, want ...S) {
	t.Helper()
	p := k.Out()
	if p.Epoch != epoch || p.Base != acked || p.Ack != got || !slices.Equal(p.Items, want) {
		t.Fatalf("Out = %v, want %d, %v, %d", p, acked, want, got)
	}
	if k.Acked() != acked || k.Got() != got || k.Idle() != (len(want) == 0) {
		t.Fatalf("Acked %d, Got %d, Idle %t, want %d, %d, %t", k.Acked(), k.Got(), k.Idle(), acked, got, len(want) == 0)
	}
}

func hasRoom[S, R any](t *testing.T, k *link.Link[S, R], want int) {
	t.Helper()
	if n := k.Room(); n != want {
		t.Fatalf("Room = %d, want %d", n, want)
	}
}

// P11.1
func TestNew(t *testing.T) {
	for _, most := range []int{1, 2, 33, api.MaxRing} {
		for _, window := range []int{1, 2, api.MaxWindow} {
			k := endOf[string, int](t, most, window)
			sends(t, k, 0, 0)
			hasRoom(t, k, most)
			takesAll(t, k)
		}
	}
	wrongMost := []int{0, -1, api.MaxRing + 1, math.MaxInt, math.MinInt}
	wrongWindow := []int{0, -1, api.MaxWindow + 1, math.MaxInt, math.MinInt}
	for _, most := range append(wrongMost, 1, api.MaxRing) {
		for _, window := range append(wrongWindow, 1, api.MaxWindow) {
			if !slices.Contains(wrongMost, most) && !slices.Contains(wrongWindow, window) {
				continue
			}
			if k, e := link.New[int, string](epoch, most, window); k != nil || e != api.ErrArg {
				t.Errorf("New(%d, %d) = %v, %d", most, window, k, e)
			}
		}
	}
}

// P11.1: an epoch is any number, and is told as it is.
func TestNewTakesEveryEpoch(t *testing.T) {
	for _, v := range []api.ViewID{{}, {N: 1}, {P: 5}, {N: math.MaxUint64, P: -1}, {P: math.MinInt}, {N: 1, P: math.MaxInt}} {
		k, e := link.New[int, int](v, 2, 1)
		if e != api.OK || k.Out().Epoch != v {
			t.Errorf("the epoch %v: %v, %d", v, k.Out(), e)
		}
		in(t, k, link.Packet[int]{Epoch: v, Items: []int{5}}, 1, api.OK)
	}
}

// P11.1: the example.
func TestThereAndBack(t *testing.T) {
	a, b := endOf[string, int](t, 4, 2, "x"), endOf[int, string](t, 4, 2)
	sends(t, a, 0, 0, "x")
	hasRoom(t, a, 3)
	in(t, b, a.Out(), 1, api.OK)
	sends(t, b, 0, 1)
	in(t, a, b.Out(), 0, api.OK)
	sends(t, a, 1, 0)
	hasRoom(t, a, 4)
	takesAll(t, b, "x")
	sends(t, b, 0, 1)
}

// P11.1: one packet brings things, and word of those that have come the other way.
func TestBothWaysAtOnce(t *testing.T) {
	a, b := endOf[string, int](t, 3, 2, "x", "y", "z"), endOf[int, string](t, 3, 2, 1, 2)
	in(t, b, a.Out(), 2, api.OK)
	in(t, a, b.Out(), 2, api.OK)
	sends(t, a, 2, 2, "z")
	put(t, b, 3, api.OK)
	in(t, b, a.Out(), 1, api.OK)
	sends(t, b, 2, 3, 3)
	in(t, a, b.Out(), 1, api.OK)
	in(t, b, a.Out(), 0, api.OK)
	sends(t, a, 3, 3)
	sends(t, b, 3, 3)
	takesAll(t, a, 1, 2, 3)
	takesAll(t, b, "x", "y", "z")
}

// P11.1: at most a window goes out at once, from the first on that isn't known to have come.
func TestOutIsTheWindow(t *testing.T) {
	a := endOf[string, int](t, 5, 2, "a", "b", "c", "d", "e")
	sends(t, a, 0, 0, "a", "b")
	sends(t, a, 0, 0, "a", "b")
	in(t, a, packet[int](0, 1), 0, api.OK)
	sends(t, a, 1, 0, "b", "c")
	in(t, a, packet[int](0, 3), 0, api.OK)
	sends(t, a, 3, 0, "d", "e")
	in(t, a, packet[int](0, 4), 0, api.OK)
	sends(t, a, 4, 0, "e")
	in(t, a, packet[int](0, 5), 0, api.OK)
	sends(t, a, 5, 0)
}

// P11.1, P7: as many wait at an end as may, each way, and not one more.
func TestNoMoreThanItsBound(t *testing.T) {
	for _, most := range []int{1, 2, 33, api.MaxRing} {
		a, b := endOf[int, string](t, most, api.MaxWindow), endOf[string, int](t, most, 1)
		for i := range most {
			hasRoom(t, a, most-i)
			put(t, a, i, api.OK)
		}
		hasRoom(t, a, 0)
		put(t, a, -1, api.ErrBusy)
		for int(b.Got()) < most {
			in(t, b, a.Out(), min(api.MaxWindow, most-int(b.Got())), api.OK)
			in(t, a, b.Out(), 0, api.OK)
		}
		hasRoom(t, a, most)
		put(t, a, most, api.OK)
		in(t, b, a.Out(), 0, api.OK)
		in(t, a, b.Out(), 0, api.OK)
		sends(t, a, uint64(most), 0, most)
		take(t, b, 0, api.OK)
		in(t, b, a.Out(), 1, api.OK)
		for i := range most {
			take(t, b, i+1, api.OK)
		}
		takesAll(t, b)
	}
}

// P11.1: as much comes as there is room for, however long the list is.
func TestInTakesAsManyAsThereIsRoomFor(t *testing.T) {
	long := make([]int, 100000)
	for i := range long {
		long[i] = i
	}
	k := endOf[string, int](t, 3, 2)
	in(t, k, packet(0, 0, long...), 3, api.OK)
	in(t, k, packet(0, 0, long...), 0, api.OK)
	take(t, k, 0, api.OK)
	in(t, k, packet(2, 0, long[2:]...), 1, api.OK)
	sends(t, k, 0, 4)
	takesAll(t, k, 1, 2, 3)
}

// P11.1: a packet of another epoch does nothing, whatever else is wrong or right with it.
func TestInOfAnotherEpoch(t *testing.T) {
	k := endOf[string, int](t, 5, 2, "a", "b", "c")
	in(t, k, packet(0, 1, 10), 1, api.OK)
	for _, v := range []api.ViewID{{}, {N: 7}, {N: 7, P: 2}, {N: 7, P: 4}, {N: 6, P: 3}, {N: 8, P: 3}, {P: 3}, {N: math.MaxUint64, P: math.MinInt}} {
		for _, ack := range []uint64{0, 1, 2, 3, 4, math.MaxUint64} {
			for _, base := range []uint64{0, 1, 2, math.MaxUint64} {
				p := packet(base, ack, 10, 11, 12)
				p.Epoch = v
				in(t, k, p, 0, api.ErrStale)
			}
		}
	}
	sends(t, k, 1, 1, "b", "c")
	takesAll(t, k, 10)
}

// P11.1: who has got what wasn't sent is in the wrong: nothing of its packet comes.
func TestInWithAnAckBeyondTheWindow(t *testing.T) {
	k := endOf[string, int](t, 5, 2, "a", "b", "c", "d")
	in(t, k, packet(0, 1, 10), 1, api.OK)
	for _, ack := range []uint64{4, 5, 6, 1 << 32, 1 << 63, math.MaxUint64} {
		for _, base := range []uint64{0, 1, 2, math.MaxUint64} {
			in(t, k, packet(base, ack, 10, 11, 12), 0, api.ErrArg)
		}
	}
	sends(t, k, 1, 1, "b", "c")
	takesAll(t, k, 10)
}

// P11.1: word that is older than what is known is no fault, and what comes with it comes.
func TestInWithAnOldAck(t *testing.T) {
	k := endOf[string, int](t, 5, 2, "a", "b", "c")
	in(t, k, packet[int](0, 2), 0, api.OK)
	in(t, k, packet(0, 1, 10), 1, api.OK)
	in(t, k, packet(0, 0, 10, 11), 1, api.OK)
	in(t, k, packet(2, 2, 12), 1, api.OK)
	sends(t, k, 2, 3, "c")
	in(t, k, packet(4, 0, 14), 0, api.ErrArg)
	sends(t, k, 2, 3, "c")
	takesAll(t, k, 10, 11, 12)
}

// P11.1: what comes behind a gap is a fault, and doesn't come; the word of what has come was heard ahead of it.
func TestInBehindAGap(t *testing.T) {
	k := endOf[string, int](t, 5, 2, "a", "b", "c")
	for _, base := range []uint64{1, 2, 1 << 63, math.MaxUint64} {
		in(t, k, packet(base, 0, 11), 0, api.ErrArg)
		in(t, k, packet[int](base, 0), 0, api.ErrArg)
	}
	sends(t, k, 0, 0, "a", "b")
	in(t, k, packet(1, 1, 11), 0, api.ErrArg)
	sends(t, k, 1, 0, "b", "c")
	takesAll(t, k)
}

// P11.1: Idle asks for what this end has sent, not for what has come to it.
func TestIdle(t *testing.T) {
	k := endOf[string, int](t, 2, 1)
	in(t, k, packet(0, 0, 1, 2), 2, api.OK)
	sends(t, k, 0, 2)
	put(t, k, "a", api.OK)
	put(t, k, "b", api.OK)
	sends(t, k, 0, 2, "a")
	in(t, k, packet[int](0, 1), 0, api.OK)
	sends(t, k, 1, 2, "b")
	in(t, k, packet[int](0, 2), 0, api.OK)
	sends(t, k, 2, 2)
}

// oneWay is what goes from one end to the other: how many were put and taken, and the packets that are under way.
type oneWay struct {
	from, to   *link.Link[int, int]
	put, taken int
	bag        []link.Packet[int]
}

// step: one of the things that may happen on the way.
func (w *oneWay) step(t *testing.T, rnd *rand.Rand) {
	t.Helper()
	switch rnd.Intn(6) {
	case 0:
		if w.from.Put(w.put) == api.OK {
			w.put++
		}
	case 1:
		w.take(t)
	case 2:
		w.bag = append(w.bag, w.from.Out())
	default:
		if len(w.bag) == 0 {
			return
		}
		i := rnd.Intn(len(w.bag))
		p := w.bag[i]
		p.Items = slices.Clone(p.Items)
		// One in two stays, to come once more.
		if rnd.Intn(2) == 0 {
			w.bag = slices.Delete(w.bag, i, i+1)
		}
		if rnd.Intn(3) > 0 {
			w.come(t, p)
		}
	}
}

// come: a packet comes: it is never a fault, and as many come as Got tells.
func (w *oneWay) come(t *testing.T, p link.Packet[int]) {
	t.Helper()
	before := w.to.Got()
	n, e := w.to.In(p)
	if e != api.OK || w.to.Got() != before+uint64(n) || n > 0 && p.Base+uint64(len(p.Items)) < w.to.Got() {
		t.Fatalf("In(%v) = %d, %d with Got %d, %d", p, n, e, before, w.to.Got())
	}
}

// take: what is taken next is what was put next.
func (w *oneWay) take(t *testing.T) {
	t.Helper()
	x, e := w.to.Take()
	if waiting := int(w.to.Got()) > w.taken; waiting != (e == api.OK) {
		t.Fatalf("Take = %d, %d, with Got %d, and %d taken", x, e, w.to.Got(), w.taken)
	}
	if e == api.OK {
		if x != w.taken || w.taken >= w.put {
			t.Fatalf("Take = %d, want %d of %d", x, w.taken, w.put)
		}
		w.taken++
	}
}

// holds: nobody knows of more than there is.
func (w *oneWay) holds(t *testing.T) {
	t.Helper()
	acked, got := int(w.from.Acked()), int(w.to.Got())
	if acked > got || got > w.put || w.taken > got || w.from.Idle() != (acked == w.put) {
		t.Fatalf("put %d, Got %d, Acked %d, taken %d, Idle %t", w.put, got, acked, w.taken, w.from.Idle())
	}
}

// P11.2, and P11.1's bounds on the way: packets are lost, doubled and late, both ways.
func TestWhatIsTakenIsABeginningOfWhatWasPut(t *testing.T) {
	rnd := rand.New(rand.NewSource(11))
	sizes := []int{1, 2, 3, 7, 40, api.MaxRing}
	windows := []int{1, 2, 5, api.MaxWindow}
	for range 120 {
		a := endOf[int, int](t, sizes[rnd.Intn(len(sizes))], windows[rnd.Intn(len(windows))])
		b := endOf[int, int](t, sizes[rnd.Intn(len(sizes))], windows[rnd.Intn(len(windows))])
		ways := []*oneWay{{from: a, to: b}, {from: b, to: a}}
		for range 1500 {
			w := ways[rnd.Intn(2)]
			w.step(t, rnd)
			ways[0].holds(t)
			ways[1].holds(t)
		}
		for !a.Idle() || !b.Idle() || ways[0].taken < ways[0].put || ways[1].taken < ways[1].put {
			for _, w := range ways {
				before := w.taken + int(w.from.Acked())
				w.come(t, w.from.Out())
				w.take(t)
				ways[0].come(t, a.Out())
				ways[1].come(t, b.Out())
				if w.taken < w.put && w.taken+int(w.from.Acked()) == before {
					t.Fatalf("it doesn't end: put %d, taken %d, Acked %d", w.put, w.taken, w.from.Acked())
				}
			}
		}
	}
}

// P11.2: every packet that the one end ever sent comes again, at each step, the other end's too.
func TestOldPacketsComeAgain(t *testing.T) {
	a, b := endOf[int, string](t, 3, 2), endOf[string, int](t, 2, 2)
	var there []link.Packet[int]
	var back []link.Packet[string]
	put, taken := 0, 0
	for range 60 {
		for a.Put(put) == api.OK {
			put++
		}
		there, back = append(there, a.Out()), append(back, b.Out())
		for i := range there {
			for _, j := range []int{len(there) - 1 - i, i} {
				if _, e := b.In(there[j]); e != api.OK {
					t.Fatalf("In(%v) = %d", there[j], e)
				}
				if n, e := a.In(back[j]); n != 0 || e != api.OK {
					t.Fatalf("In(%v) = %d, %d", back[j], n, e)
				}
			}
		}
		for int(b.Got()) > taken {
			take(t, b, taken, api.OK)
			taken++
		}
		takesAll(t, b)
	}
	if taken < 60 {
		t.Errorf("but %d of %d were taken", taken, put)
	}
}

// P11.1: things of every kind, nothing of them (nil) too.
func TestThingsOfManyKinds(t *testing.T) {
	n := 5
	a, b := endOf[*int, any](t, 3, 3, &n, nil), endOf[any, *int](t, 3, 3, nil, 1, "a")
	in(t, b, a.Out(), 2, api.OK)
	in(t, a, b.Out(), 3, api.OK)
	takesAll(t, b, &n, nil)
	for _, want := range []any{nil, 1, "a"} {
		if x, e := a.Take(); x != want || e != api.OK {
			t.Errorf("Take = %v, %d, want %v", x, e, want)
		}
	}
	c, d := endOf[[]byte, struct{}](t, 2, 2, []byte("ab"), nil), endOf[struct{}, []byte](t, 2, 2, struct{}{})
	in(t, d, c.Out(), 2, api.OK)
	in(t, c, d.Out(), 1, api.OK)
	takesAll(t, c, struct{}{})
	for _, want := range []string{"ab", ""} {
		if x, e := d.Take(); string(x) != want || e != api.OK {
			t.Errorf("Take = %q, %d, want %q", x, e, want)
		}
	}
}

// The rule 'Memory' at P11.1: the list that Out answers is the caller's, with its spare room.
func TestOutAnswersNewMemory(t *testing.T) {
	k := endOf[string, int](t, 4, 3, "x", "a", "b", "c")
	in(t, k, packet[int](0, 1), 0, api.OK)
	put(t, k, "d", api.OK)
	first, second := k.Out(), k.Out()
	for i := range first.Items[:cap(first.Items)] {
		first.Items[:cap(first.Items)][i] = "spoilt"
	}
	if !slices.Equal(second.Items, []string{"a", "b", "c"}) {
		t.Errorf("two answers share memory: %v", second)
	}
	sends(t, k, 1, 0, "a", "b", "c")
	in(t, k, packet[int](0, 4), 0, api.OK)
	sends(t, k, 4, 0, "d")
	if !slices.Equal(second.Items, []string{"a", "b", "c"}) {
		t.Errorf("an answer has changed: %v", second)
	}
}

// The rule 'Memory' at P11.1: the list that comes is not changed, its spare room neither, and not kept.
func TestInLeavesItsList(t *testing.T) {
	whole := []string{"a", "b", "c", "spare", "spare"}
	k := endOf[int, string](t, 4, 2)
	in(t, k, packet(0, 0, whole[:3]...), 3, api.OK)
	if !slices.Equal(whole, []string{"a", "b", "c", "spare", "spare"}) {
		t.Errorf("changed: %v", whole)
	}
	for i := range whole {
		whole[i] = "spoilt"
	}
	in(t, k, packet(3, 0, "d"), 1, api.OK)
	if !slices.Equal(whole, []string{"spoilt", "spoilt", "spoilt", "spoilt", "spoilt"}) {
		t.Errorf("changed: %v", whole)
	}
	takesAll(t, k, "a", "b", "c", "d")
}

// P2: an end hears of nothing that another one is told.
func TestEndsAreApart(t *testing.T) {
	a, b, c := endOf[int, int](t, 5, 2, 1, 2), endOf[int, int](t, 5, 2, 1, 2), endOf[int, int](t, 5, 2, 9)
	for i := range 20 {
		in(t, c, packet(uint64(i), uint64(i+1), 0), 1, api.OK)
		put(t, c, i, api.OK)
		take(t, c, 0, api.OK)
		for _, k := range []*link.Link[int, int]{a, b} {
			in(t, k, packet(uint64(i), uint64(i+1), i+50), 1, api.OK)
			put(t, k, i+3, api.OK)
			sends(t, k, uint64(i+1), uint64(i+1), i+2, i+3)
			takesAll(t, k, i+50)
		}
	}
}

// P1 and P11.1: nil.
func TestNil(t *testing.T) {
	var k *link.Link[string, int]
	put(t, k, "a", api.ErrNone)
	take(t, k, 0, api.ErrNone)
	hasRoom(t, k, 0)
	for _, p := range []link.Packet[int]{{}, packet[int](0, 0), packet(5, 5, 1, 2), {Ack: math.MaxUint64}} {
		in(t, k, p, 0, api.ErrNone)
	}
	if k.Acked() != 0 || k.Got() != 0 || !k.Idle() {
		t.Errorf("Acked %d, Got %d, Idle %t", k.Acked(), k.Got(), k.Idle())
	}
	if p := k.Out(); p.Epoch != (api.ViewID{}) || p.Base != 0 || len(p.Items) != 0 || p.Ack != 0 {
		t.Errorf("Out = %v", p)
	}
}

// What is known to have come, and what was taken, is kept no more.
func TestThingsAreNotKept(t *testing.T) {
	type big [64]int
	a, b := endOf[*big, int](t, 5, 3), endOf[int, *big](t, 5, 3)
	var sent []weak.Pointer[big]
	for i := range 12 {
		x := new(big)
		sent = append(sent, weak.Make(x))
		put(t, a, x, api.OK)
		if i < 3 {
			continue
		}
		if _, e := b.In(a.Out()); e != api.OK {
			t.Fatalf("In = %d", e)
		}
		for {
			if _, e := b.Take(); e != api.OK {
				break
			}
		}
		if i < 11 {
			in(t, a, b.Out(), 0, api.OK)
		}
	}
	first := int(a.Acked())
	if first == 0 || first == 12 {
		t.Fatalf("Acked = %d", first)
	}
	runtime.GC()
	for i, p := range sent {
		if kept := p.Value() != nil; kept != (i >= first) {
			t.Errorf("the thing %d of %d: kept: %t", i, first, kept)
		}
	}
	runtime.KeepAlive(a)
	runtime.KeepAlive(b)
}
