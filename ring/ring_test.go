package ring_test

import (
	"math"
	"math/rand"
	"runtime"
	"slices"
	"testing"
	"weak"

	"folkmoot/api"
	"folkmoot/ring"
)

func ringOf[T any](t *testing.T, most int, l ...T) *ring.Ring[T] {
	t.Helper()
	r, e := ring.New[T](most)
	if r == nil || e != api.OK {
		t.Fatalf("New(%d) = %v, %d", most, r, e)
	}
	for _, x := range l {
		put(t, r, x, api.OK)
	}
	return r
}

func put[T any](t *testing.T, r *ring.Ring[T], x T, want api.Errno) {
	t.Helper()
	if e := r.Put(x); e != want {
		t.Fatalf("Put(%v) = %d, want %d", x, e, want)
	}
}

func take[T comparable](t *testing.T, r *ring.Ring[T], want T, wantErr api.Errno) {
	t.Helper()
	if x, e := r.Take(); x != want || e != wantErr {
		t.Fatalf("Take = %v, %d, want %v, %d", x, e, want, wantErr)
	}
}

// holds: all that the ring tells is that it has just these, of most.
func holds[T comparable](t *testing.T, r *ring.Ring[T], most int, want []T) {
	t.Helper()
	if r.Len() != len(want) || r.Room() != most-len(want) {
		t.Fatalf("Len %d, Room %d, want %d, %d", r.Len(), r.Room(), len(want), most-len(want))
	}
	for i, w := range want {
		if x, e := r.At(i); x != w || e != api.OK {
			t.Fatalf("At(%d) = %v, %d, want %v", i, x, e, w)
		}
	}
	var none T
	for _, i := range []int{len(want), len(want) + 1, most, -1, math.MaxInt, math.MinInt} {
		if i >= 0 && i < len(want) {
			continue
		}
		if x, e := r.At(i); x != none || e != api.ErrArg {
			t.Fatalf("At(%d) of %d = %v, %d", i, len(want), x, e)
		}
	}
	for _, n := range []int{0, 1, 2, len(want) - 1, len(want), len(want) + 1, most, math.MaxInt, -1, math.MinInt} {
		if l := r.First(n); !slices.Equal(l, want[:max(0, min(n, len(want)))]) {
			t.Fatalf("First(%d) = %v of %v", n, l, want)
		}
	}
}

// P3.1
func TestNew(t *testing.T) {
	for _, most := range []int{1, 2, 255, api.MaxRing} {
		holds(t, ringOf[int](t, most), most, nil)
	}
	for _, most := range []int{0, -1, api.MaxRing + 1, math.MaxInt, math.MinInt} {
		if r, e := ring.New[int](most); r != nil || e != api.ErrArg {
			t.Errorf("New(%d) = %v, %d", most, r, e)
		}
	}
}

// P3.1: the example.
func TestPutThatHasNoRoom(t *testing.T) {
	r := ringOf(t, 2, "a", "b")
	put(t, r, "c", api.ErrBusy)
	holds(t, r, 2, []string{"a", "b"})
	take(t, r, "a", api.OK)
	holds(t, r, 2, []string{"b"})
	put(t, r, "d", api.OK)
	put(t, r, "e", api.ErrBusy)
	holds(t, r, 2, []string{"b", "d"})
}

// P3.1
func TestTakeTillThereIsNone(t *testing.T) {
	r := ringOf[string](t, 3)
	take(t, r, "", api.ErrNone)
	put(t, r, "a", api.OK)
	put(t, r, "", api.OK)
	take(t, r, "a", api.OK)
	take(t, r, "", api.OK)
	take(t, r, "", api.ErrNone)
	take(t, r, "", api.ErrNone)
	holds(t, r, 3, nil)
	put(t, r, "b", api.OK)
	holds(t, r, 3, []string{"b"})
}

// P3.1: a ring for one.
func TestRingOfOne(t *testing.T) {
	r := ringOf[int](t, 1)
	for i := range 5 {
		put(t, r, i, api.OK)
		put(t, r, -1, api.ErrBusy)
		holds(t, r, 1, []int{i})
		take(t, r, i, api.OK)
		take(t, r, 0, api.ErrNone)
	}
}

// P3.1, P7: at each size as many as may be, not one more, from wherever the first stands.
func TestNoMoreThanItsBound(t *testing.T) {
	for most := 1; most <= api.MaxRing; most++ {
		for _, ahead := range []int{0, 1, most / 2, most - 1} {
			r := ringOf[int](t, most)
			for range ahead {
				put(t, r, -1, api.OK)
			}
			for range ahead {
				take(t, r, -1, api.OK)
			}
			var want []int
			for i := range most {
				put(t, r, i, api.OK)
				want = append(want, i)
			}
			for range 3 {
				put(t, r, most, api.ErrBusy)
			}
			holds(t, r, most, want)
		}
	}
}

// P3.1: a ring does as a plain list does.
func TestAsTheModel(t *testing.T) {
	for i, most := range []int{1, 2, 3, 4, 5, 7, 8, 15, 31, 100, api.MaxRing} {
		rnd := rand.New(rand.NewSource(int64(i)))
		r := ringOf[int](t, most)
		var model []int
		up := 5 // of ten steps so many put, so that it is full at times and empty at times
		for step := range 4000 {
			if step%500 == 0 {
				up = 3 + rnd.Intn(5)
			}
			down := rnd.Intn(10) >= up
			switch {
			case down && len(model) == 0:
				take(t, r, 0, api.ErrNone)
			case down:
				take(t, r, model[0], api.OK)
				model = model[1:]
			case len(model) == most:
				put(t, r, step+1, api.ErrBusy)
			default:
				put(t, r, step+1, api.OK)
				model = append(model, step+1)
			}
			holds(t, r, most, model)
		}
	}
}

// P3.1: things of every kind, nothing of them (nil) too.
func TestThingsOfManyKinds(t *testing.T) {
	type pair struct {
		a int
		b string
	}
	p := ringOf(t, 3, pair{1, "x"}, pair{2, "y"})
	holds(t, p, 3, []pair{{1, "x"}, {2, "y"}})
	n := 5
	holds(t, ringOf(t, 3, &n, nil), 3, []*int{&n, nil})
	holds(t, ringOf[any](t, 4, nil, 1, "a"), 4, []any{nil, 1, "a"})
	holds(t, ringOf(t, 2, struct{}{}, struct{}{}), 2, []struct{}{{}, {}})
	f := ringOf(t, 2, func() int { return 7 })
	if g, e := f.Take(); e != api.OK || g() != 7 {
		t.Errorf("Take of a function: %d", e)
	}
	b := ringOf(t, 2, []byte("ab"), nil)
	if x, e := b.At(0); string(x) != "ab" || e != api.OK {
		t.Errorf("At(0) = %q, %d", x, e)
	}
	if x, e := b.At(1); x != nil || e != api.OK {
		t.Errorf("At(1) = %q, %d", x, e)
	}
}

// The rule 'Memory' at P3.1: the list that First answers is the caller's, with its spare room.
func TestFirstAnswersNewMemory(t *testing.T) {
	r := ringOf(t, 4, "x", "a", "b", "c")
	take(t, r, "x", api.OK)
	put(t, r, "d", api.OK)
	first, second := r.First(3), r.First(3)
	for i := range first[:cap(first)] {
		first[:cap(first)][i] = "spoilt"
	}
	if !slices.Equal(second, []string{"a", "b", "c"}) {
		t.Errorf("two answers share memory: %v", second)
	}
	holds(t, r, 4, []string{"a", "b", "c", "d"})
}

// P2: two rings that are told the same answer the same, and a ring hears of nothing that is put into another one.
func TestRingsAreApart(t *testing.T) {
	a, b, c := ringOf(t, 5, 1, 2), ringOf(t, 5, 1, 2), ringOf(t, 5, 9)
	for i := range 20 {
		put(t, c, i, api.OK)
		take(t, a, i+1, api.OK)
		take(t, b, i+1, api.OK)
		put(t, a, i+3, api.OK)
		put(t, b, i+3, api.OK)
		holds(t, a, 5, []int{i + 2, i + 3})
		holds(t, b, 5, []int{i + 2, i + 3})
		if _, e := c.Take(); e != api.OK {
			t.Fatalf("Take = %d", e)
		}
	}
}

// P1 and the rule 'A nil object'.
func TestNil(t *testing.T) {
	var r *ring.Ring[string]
	if r.Len() != 0 || r.Room() != 0 {
		t.Errorf("Len %d, Room %d", r.Len(), r.Room())
	}
	put(t, r, "a", api.ErrNone)
	take(t, r, "", api.ErrNone)
	for _, i := range []int{0, 1, -1, math.MaxInt, math.MinInt} {
		if x, e := r.At(i); x != "" || e != api.ErrNone {
			t.Errorf("At(%d) = %q, %d", i, x, e)
		}
		if l := r.First(i); len(l) != 0 {
			t.Errorf("First(%d) = %v", i, l)
		}
	}
}

// What was taken is kept no more, wherever in the ring it stood.
func TestTakenThingsAreNotKept(t *testing.T) {
	type big [64]int
	r := ringOf[*big](t, 5)
	var taken []weak.Pointer[big]
	for i := range 12 {
		x := new(big)
		taken = append(taken, weak.Make(x))
		put(t, r, x, api.OK)
		if i >= 3 {
			if _, e := r.Take(); e != api.OK {
				t.Fatalf("Take = %d", e)
			}
		}
	}
	runtime.GC()
	for i, p := range taken {
		if kept := p.Value() != nil; kept != (i >= 9) {
			t.Errorf("the thing %d: kept: %t", i, kept)
		}
	}
	runtime.KeepAlive(r)
}
