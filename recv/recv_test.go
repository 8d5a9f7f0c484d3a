package recv_test

import (
	"math"
	"math/rand"
	"runtime"
	"slices"
	"testing"
	"weak"

	"folkmoot/api"
	"folkmoot/recv"
)

func receiverOf[T any](t *testing.T, most int, l ...T) *recv.Receiver[T] {
	t.Helper()
	c, e := recv.New[T](most)
	if c == nil || e != api.OK {
		t.Fatalf("New(%d) = %v, %d", most, c, e)
	}
	offer(t, c, 0, l, len(l), api.OK)
	return c
}

func offer[T any](t *testing.T, c *recv.Receiver[T], base uint64, l []T, want int, wantErr api.Errno) {
	t.Helper()
	if n, e := c.Offer(base, l); n != want || e != wantErr {
		t.Fatalf("Offer(%d, %v) = %d, %d, want %d, %d", base, l, n, e, want, wantErr)
	}
}

func take[T comparable](t *testing.T, c *recv.Receiver[T], want T, wantErr api.Errno) {
	t.Helper()
	if x, e := c.Take(); x != want || e != wantErr {
		t.Fatalf("Take = %v, %d, want %v, %d", x, e, want, wantErr)
	}
}

func tells[T any](t *testing.T, c *recv.Receiver[T], next uint64, count, room int) {
	t.Helper()
	if c.Next() != next || c.Len() != count || c.Room() != room {
		t.Fatalf("Next %d, Len %d, Room %d, want %d, %d, %d", c.Next(), c.Len(), c.Room(), next, count, room)
	}
}

// takesAll: these wait, in this order, and no other.
func takesAll[T comparable](t *testing.T, c *recv.Receiver[T], want ...T) {
	t.Helper()
	for _, x := range want {
		take(t, c, x, api.OK)
	}
	var none T
	take(t, c, none, api.ErrNone)
}

// P10.1
func TestNew(t *testing.T) {
	for _, most := range []int{1, 2, 255, api.MaxRing} {
		tells(t, receiverOf[int](t, most), 0, 0, most)
	}
	for _, most := range []int{0, -1, api.MaxRing + 1, math.MaxInt, math.MinInt} {
		if c, e := recv.New[int](most); c != nil || e != api.ErrArg {
			t.Errorf("New(%d) = %v, %d", most, c, e)
		}
	}
}

// P10.1: the example.
func TestOfferTillThereIsNoRoom(t *testing.T) {
	c := receiverOf[string](t, 2)
	offer(t, c, 0, []string{"a", "b", "c"}, 2, api.OK)
	tells(t, c, 2, 2, 0)
	take(t, c, "a", api.OK)
	tells(t, c, 2, 1, 1)
	offer(t, c, 1, []string{"b", "c"}, 1, api.OK)
	tells(t, c, 3, 2, 0)
	offer(t, c, 4, []string{"e"}, 0, api.ErrArg)
	tells(t, c, 3, 2, 0)
	takesAll(t, c, "b", "c")
	tells(t, c, 3, 0, 2)
}

// P10.1: a gap ahead of what comes is a fault, whatever comes, and nothing comes in.
func TestOfferBeyondNext(t *testing.T) {
	c := receiverOf(t, 5, "a", "b")
	for _, base := range []uint64{3, 4, 5, 1 << 32, 1 << 63, math.MaxUint64 - 1, math.MaxUint64} {
		for _, l := range [][]string{nil, {}, {"x"}, {"x", "y", "z"}} {
			offer(t, c, base, l, 0, api.ErrArg)
			tells(t, c, 2, 2, 3)
		}
	}
	takesAll(t, c, "a", "b")
}

// P10.1: what has come comes in no second time, whatever it is by now.
func TestOfferOfWhatHasCome(t *testing.T) {
	c := receiverOf(t, 9, "a", "b", "c")
	offer(t, c, 0, []string{"x", "y", "z"}, 0, api.OK)
	offer(t, c, 0, []string{"x"}, 0, api.OK)
	offer(t, c, 2, []string{"x"}, 0, api.OK)
	for base := range uint64(4) {
		offer(t, c, base, nil, 0, api.OK)
	}
	tells(t, c, 3, 3, 6)
	offer(t, c, 0, []string{"x", "y", "z", "d"}, 1, api.OK)
	offer(t, c, 2, []string{"x", "y", "e", "f"}, 2, api.OK)
	offer(t, c, 6, []string{"g"}, 1, api.OK)
	tells(t, c, 7, 7, 2)
	takesAll(t, c, "a", "b", "c", "d", "e", "f", "g")
	offer(t, c, 0, []string{"x", "y", "z"}, 0, api.OK)
	tells(t, c, 7, 0, 9)
}

// P10.1: without room nothing comes in, and that is no fault.
func TestOfferWithoutRoom(t *testing.T) {
	c := receiverOf(t, 2, "a", "b")
	offer(t, c, 2, []string{"c"}, 0, api.OK)
	offer(t, c, 0, []string{"a", "b", "c", "d"}, 0, api.OK)
	offer(t, c, 3, []string{"d"}, 0, api.ErrArg)
	tells(t, c, 2, 2, 0)
	takesAll(t, c, "a", "b")
	offer(t, c, 2, []string{"c"}, 1, api.OK)
	takesAll(t, c, "c")
}

// P10.1, P7: as many wait as may, not one more, however many come.
func TestNoMoreThanItsBound(t *testing.T) {
	long := make([]int, 100000)
	for i := range long {
		long[i] = i
	}
	for _, most := range []int{1, 2, 3, 100, 255, api.MaxRing} {
		c := receiverOf[int](t, most)
		taken := 0
		for _, count := range []int{most, 0, 1, (most + 1) / 2, most} {
			for range min(count, c.Len()) {
				take(t, c, taken, api.OK)
				taken++
			}
			offer(t, c, 0, long, c.Room(), api.OK)
			offer(t, c, uint64(taken), long[taken:], 0, api.OK)
			tells(t, c, uint64(taken+most), most, 0)
		}
		takesAll(t, c, long[taken:taken+most]...)
	}
}

// P10.1: a receiver does as a plain list does: what is taken is what was sent, in its order.
func TestAsTheModel(t *testing.T) {
	rnd := rand.New(rand.NewSource(10))
	for _, most := range []int{1, 2, 3, 5, 8, 31, 100, api.MaxRing} {
		c := receiverOf[int](t, most)
		next, taken := 0, 0
		for range 3000 {
			if rnd.Intn(3) == 0 {
				for range rnd.Intn(most + 1) {
					if taken == next {
						take(t, c, 0, api.ErrNone)
						continue
					}
					take(t, c, taken+1000, api.OK)
					taken++
				}
			}
			base := max(0, next-5+rnd.Intn(8))
			var l []int
			for i := range rnd.Intn(2*most + 5) {
				l = append(l, base+i+1000)
			}
			switch {
			case base > next:
				offer(t, c, uint64(base), l, 0, api.ErrArg)
			default:
				came := min(max(0, base+len(l)-next), most-(next-taken))
				offer(t, c, uint64(base), l, came, api.OK)
				next += came
			}
			tells(t, c, uint64(next), next-taken, most-(next-taken))
		}
	}
}

// P10.1: things of every kind, nothing of them (nil) too.
func TestThingsOfManyKinds(t *testing.T) {
	n := 5
	takesAll(t, receiverOf(t, 3, &n, nil), &n, nil)
	takesAll(t, receiverOf[any](t, 4, nil, 1, "a"), nil, 1, "a")
	takesAll(t, receiverOf(t, 2, struct{}{}, struct{}{}), struct{}{}, struct{}{})
	c := receiverOf(t, 2, []byte("ab"), nil)
	for _, want := range []string{"ab", ""} {
		if x, e := c.Take(); string(x) != want || e != api.OK {
			t.Errorf("Take = %q, %d, want %q", x, e, want)
		}
	}
	if x, e := c.Take(); x != nil || e != api.ErrNone {
		t.Errorf("Take = %q, %d", x, e)
	}
}

// The rule 'Memory' at P10.1: the list that comes is not changed, its spare room neither, and not kept.
func TestOfferLeavesItsList(t *testing.T) {
	whole := []string{"a", "b", "c", "spare", "spare"}
	l := whole[:3]
	c := receiverOf[string](t, 4)
	offer(t, c, 0, l, 3, api.OK)
	if !slices.Equal(whole, []string{"a", "b", "c", "spare", "spare"}) {
		t.Errorf("changed: %v", whole)
	}
	for i := range whole {
		whole[i] = "spoilt"
	}
	offer(t, c, 3, []string{"d"}, 1, api.OK)
	if !slices.Equal(whole, []string{"spoilt", "spoilt", "spoilt", "spoilt", "spoilt"}) {
		t.Errorf("changed: %v", whole)
	}
	takesAll(t, c, "a", "b", "c", "d")
}

// P2: a receiver hears of nothing that another one is told.
func TestReceiversAreApart(t *testing.T) {
	a, b, c := receiverOf(t, 5, 1, 2), receiverOf(t, 5, 1, 2), receiverOf(t, 5, 9)
	for i := range 20 {
		offer(t, c, uint64(i+1), []int{0}, 1, api.OK)
		take(t, c, []int{9, 0}[min(i, 1)], api.OK)
		for _, r := range []*recv.Receiver[int]{a, b} {
			take(t, r, i+1, api.OK)
			offer(t, r, uint64(i+2), []int{i + 3}, 1, api.OK)
			tells(t, r, uint64(i+3), 2, 3)
		}
	}
}

// P1 and P10.1: nil.
func TestNil(t *testing.T) {
	var c *recv.Receiver[string]
	tells(t, c, 0, 0, 0)
	take(t, c, "", api.ErrNone)
	for _, base := range []uint64{0, 1, math.MaxUint64} {
		offer(t, c, base, nil, 0, api.ErrNone)
		offer(t, c, base, []string{"a"}, 0, api.ErrNone)
	}
	var p *recv.Receiver[*int]
	take(t, p, nil, api.ErrNone)
}

// What was taken is kept no more.
func TestTakenThingsAreNotKept(t *testing.T) {
	type big [64]int
	c := receiverOf[*big](t, 5)
	var taken []weak.Pointer[big]
	for i := range 12 {
		x := new(big)
		taken = append(taken, weak.Make(x))
		offer(t, c, uint64(i), []*big{x}, 1, api.OK)
		if i >= 3 {
			if _, e := c.Take(); e != api.OK {
				t.Fatalf("Take = %d", e)
			}
		}
	}
	runtime.GC()
	for i, p := range taken {
		if kept := p.Value() != nil; kept != (i >= 9) {
			t.Errorf("the thing %d: kept: %t", i, kept)
		}
	}
	runtime.KeepAlive(c)
}
