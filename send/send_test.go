package send_test

import (
	"math"
	"math/rand"
	"runtime"
	"slices"
	"testing"
	"weak"

	"folkmoot/api"
	"folkmoot/send"
)

func senderOf[T any](t *testing.T, most, window int, l ...T) *send.Sender[T] {
	t.Helper()
	s, e := send.New[T](most, window)
	if s == nil || e != api.OK {
		t.Fatalf("New(%d, %d) = %v, %d", most, window, s, e)
	}
	for _, x := range l {
		put(t, s, x, api.OK)
	}
	return s
}

func put[T any](t *testing.T, s *send.Sender[T], x T, want api.Errno) {
	t.Helper()
	if e := s.Put(x); e != want {
		t.Fatalf("Put(%v) = %d, want %d", x, e, want)
	}
}

func ack[T any](t *testing.T, s *send.Sender[T], n uint64, want api.Errno) {
	t.Helper()
	if e := s.Ack(n); e != want {
		t.Fatalf("Ack(%d) = %d, want %d", n, e, want)
	}
}

// tells: all that the sender tells is that so many have come, of most, with these behind them.
func tells[T comparable](t *testing.T, s *send.Sender[T], most, window int, acked uint64, want []T) {
	t.Helper()
	if s.Len() != len(want) || s.Room() != most-len(want) || s.Acked() != acked {
		t.Fatalf("Len %d, Room %d, Acked %d, want %d, %d, %d", s.Len(), s.Room(), s.Acked(), len(want), most-len(want), acked)
	}
	if n, l := s.Window(); n != acked || !slices.Equal(l, want[:min(window, len(want))]) {
		t.Fatalf("Window = %d, %v, want %d, at most %d of %v", n, l, acked, window, want)
	}
}

// refuses: no number but those of the window is taken, and the others change nothing.
func refuses[T comparable](t *testing.T, s *send.Sender[T], most, window int, acked uint64, want []T) {
	t.Helper()
	beyond := acked + uint64(min(window, len(want))) + 1
	for _, n := range []uint64{beyond, beyond + 1, beyond + math.MaxUint32, 1 << 63, math.MaxUint64 - 1, math.MaxUint64} {
		ack(t, s, n, api.ErrArg)
	}
	if acked > 0 {
		for _, n := range []uint64{0, acked / 2, acked - 1} {
			ack(t, s, n, api.ErrStale)
		}
	}
	tells(t, s, most, window, acked, want)
}

// P9.1
func TestNew(t *testing.T) {
	for _, most := range []int{1, 2, 31, 32, 33, api.MaxRing} {
		for _, window := range []int{1, 2, api.MaxWindow} {
			s := senderOf[int](t, most, window)
			tells(t, s, most, window, 0, nil)
			refuses(t, s, most, window, 0, nil)
		}
	}
	wrongMost := []int{0, -1, api.MaxRing + 1, math.MaxInt, math.MinInt}
	wrongWindow := []int{0, -1, api.MaxWindow + 1, math.MaxInt, math.MinInt}
	for _, most := range append(wrongMost, 1, api.MaxRing) {
		for _, window := range append(wrongWindow, 1, api.MaxWindow) {
			if !slices.Contains(wrongMost, most) && !slices.Contains(wrongWindow, window) {
				continue
			}
			if s, e := send.New[int](most, window); s != nil || e != api.ErrArg {
				t.Errorf("New(%d, %d) = %v, %d", most, window, s, e)
			}
		}
	}
}

// P9.1: the example, and example 6 of the whole.
func TestAWindowOfTwo(t *testing.T) {
	s := senderOf(t, 3, 2, "a", "b", "c")
	tells(t, s, 3, 2, 0, []string{"a", "b", "c"})
	ack(t, s, 1, api.OK)
	tells(t, s, 3, 2, 1, []string{"b", "c"})
	ack(t, s, 4, api.ErrArg)
	tells(t, s, 3, 2, 1, []string{"b", "c"})
}

// P9.1: what waits beyond the window wasn't sent, and so can't have come.
func TestAckEndsWithTheWindow(t *testing.T) {
	s := senderOf(t, 5, 2, "a", "b", "c", "d", "e")
	ack(t, s, 3, api.ErrArg)
	ack(t, s, 5, api.ErrArg)
	tells(t, s, 5, 2, 0, []string{"a", "b", "c", "d", "e"})
	ack(t, s, 2, api.OK)
	tells(t, s, 5, 2, 2, []string{"c", "d", "e"})
	ack(t, s, 5, api.ErrArg)
	ack(t, s, 4, api.OK)
	ack(t, s, 6, api.ErrArg)
	ack(t, s, 5, api.OK)
	tells(t, s, 5, 2, 5, nil)
	ack(t, s, 6, api.ErrArg)
}

// P9.1: what was known is no fault, what was known and more is.
func TestAckOfWhatIsKnown(t *testing.T) {
	s := senderOf(t, 4, 4, 1, 2, 3)
	ack(t, s, 0, api.OK)
	tells(t, s, 4, 4, 0, []int{1, 2, 3})
	ack(t, s, 2, api.OK)
	ack(t, s, 2, api.OK)
	tells(t, s, 4, 4, 2, []int{3})
	refuses(t, s, 4, 4, 2, []int{3})
	ack(t, s, 3, api.OK)
	ack(t, s, 3, api.OK)
	refuses(t, s, 4, 4, 3, nil)
}

// P9.1: Window and Ack ask for nothing to be called ahead of them, and Window changes nothing.
func TestWindowMayBeAskedOrNot(t *testing.T) {
	s := senderOf(t, 3, 1, "a", "b")
	ack(t, s, 1, api.OK)
	for range 3 {
		tells(t, s, 3, 1, 1, []string{"b"})
	}
	put(t, s, "c", api.OK)
	ack(t, s, 2, api.OK)
	tells(t, s, 3, 1, 2, []string{"c"})
}

// P9.1: a window that is wider than what may wait.
func TestAWindowWiderThanTheRoom(t *testing.T) {
	s := senderOf(t, 2, api.MaxWindow, "a", "b")
	put(t, s, "c", api.ErrBusy)
	tells(t, s, 2, api.MaxWindow, 0, []string{"a", "b"})
	ack(t, s, 3, api.ErrArg)
	ack(t, s, 2, api.OK)
	tells(t, s, 2, api.MaxWindow, 2, nil)
}

// P9.1, P7: as many wait as may, not one more, and those that have come make room.
func TestNoMoreThanItsBound(t *testing.T) {
	for _, most := range []int{1, 2, 31, 32, 33, 255, api.MaxRing} {
		for _, window := range []int{1, 7, api.MaxWindow} {
			s := senderOf[int](t, most, window)
			var want []int
			for i := range most {
				put(t, s, i, api.OK)
				want = append(want, i)
			}
			for range 3 {
				put(t, s, -1, api.ErrBusy)
			}
			tells(t, s, most, window, 0, want)
			refuses(t, s, most, window, 0, want)
			ack(t, s, 1, api.OK)
			put(t, s, most, api.OK)
			put(t, s, -1, api.ErrBusy)
			tells(t, s, most, window, 1, append(want[1:], most))
		}
	}
}

// P9.1: a sender does as a plain list does.
func TestAsTheModel(t *testing.T) {
	rnd := rand.New(rand.NewSource(9))
	for _, most := range []int{1, 2, 3, 5, 8, 31, 100, api.MaxRing} {
		for _, window := range []int{1, 2, 3, api.MaxWindow} {
			s := senderOf[int](t, most, window)
			var model []int
			acked := 0
			for step := range 600 {
				switch k := rnd.Intn(4); {
				case k > 0 && len(model) == most:
					put(t, s, -1, api.ErrBusy)
				case k > 0:
					put(t, s, step, api.OK)
					model = append(model, step)
				default:
					n := rnd.Intn(min(window, len(model)) + 1)
					acked, model = acked+n, model[n:]
					ack(t, s, uint64(acked), api.OK)
				}
				refuses(t, s, most, window, uint64(acked), model)
			}
		}
	}
}

// P9.1: things of every kind, nothing of them (nil) too.
func TestThingsOfManyKinds(t *testing.T) {
	n := 5
	tells(t, senderOf(t, 3, 3, &n, nil), 3, 3, 0, []*int{&n, nil})
	tells(t, senderOf[any](t, 4, 4, nil, 1, "a"), 4, 4, 0, []any{nil, 1, "a"})
	tells(t, senderOf(t, 2, 2, struct{}{}, struct{}{}), 2, 2, 0, []struct{}{{}, {}})
	s := senderOf(t, 2, 2, []byte("ab"), nil)
	if k, l := s.Window(); k != 0 || len(l) != 2 || string(l[0]) != "ab" || l[1] != nil {
		t.Errorf("Window = %d, %q", k, l)
	}
}

// The rule 'Memory' at P9.1: the list that Window answers is the caller's, with its spare room.
func TestWindowAnswersNewMemory(t *testing.T) {
	s := senderOf(t, 4, 3, "x", "a", "b", "c")
	ack(t, s, 1, api.OK)
	put(t, s, "d", api.OK)
	_, first := s.Window()
	_, second := s.Window()
	for i := range first[:cap(first)] {
		first[:cap(first)][i] = "spoilt"
	}
	if !slices.Equal(second, []string{"a", "b", "c"}) {
		t.Errorf("two answers share memory: %v", second)
	}
	tells(t, s, 4, 3, 1, []string{"a", "b", "c", "d"})
}

// P2: a sender hears of nothing that another one is told.
func TestSendersAreApart(t *testing.T) {
	a, b, c := senderOf(t, 5, 2, 1, 2), senderOf(t, 5, 2, 1, 2), senderOf(t, 5, 2, 9)
	for i := range 20 {
		put(t, c, i, api.OK)
		for _, s := range []*send.Sender[int]{a, b} {
			ack(t, s, uint64(i+1), api.OK)
			put(t, s, i+3, api.OK)
			tells(t, s, 5, 2, uint64(i+1), []int{i + 2, i + 3})
		}
		ack(t, c, uint64(i+1), api.OK)
	}
}

// P1 and P9.1: nil.
func TestNil(t *testing.T) {
	var s *send.Sender[string]
	put(t, s, "a", api.ErrNone)
	for _, n := range []uint64{0, 1, math.MaxUint64} {
		ack(t, s, n, api.ErrNone)
	}
	tells(t, s, 0, 0, 0, nil)
}

// What is known to have come is kept no more.
func TestThingsThatHaveComeAreNotKept(t *testing.T) {
	type big [64]int
	s := senderOf[*big](t, 5, 2)
	var sent []weak.Pointer[big]
	for i := range 12 {
		x := new(big)
		sent = append(sent, weak.Make(x))
		put(t, s, x, api.OK)
		if i >= 3 {
			ack(t, s, uint64(i-2), api.OK)
		}
	}
	runtime.GC()
	for i, p := range sent {
		if kept := p.Value() != nil; kept != (i >= 9) {
			t.Errorf("the thing %d: kept: %t", i, kept)
		}
	}
	runtime.KeepAlive(s)
}
