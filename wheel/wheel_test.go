package wheel_test

import (
	"cmp"
	"math"
	"math/rand"
	"slices"
	"testing"

	"folkmoot/api"
	"folkmoot/wheel"
)

func at(t *testing.T, now uint64) *wheel.Wheel {
	t.Helper()
	w, e := wheel.New(now)
	if w == nil || e != api.OK {
		t.Fatalf("New(%d) = %v, %d", now, w, e)
	}
	return w
}

func arm(t *testing.T, w *wheel.Wheel, id int, in uint64) {
	t.Helper()
	if e := w.Arm(id, in); e != api.OK {
		t.Fatalf("Arm(%d, %d) = %d", id, in, e)
	}
}

func tick(t *testing.T, w *wheel.Wheel, want ...int) {
	t.Helper()
	if l, e := w.Tick(); e != api.OK || !slices.Equal(l, want) {
		t.Fatalf("Tick to %d = %v, %d, want %v", w.Now(), l, e, want)
	}
}

func due(t *testing.T, w *wheel.Wheel, id int, want uint64, wantErr api.Errno) {
	t.Helper()
	if d, e := w.Due(id); d != want || e != wantErr {
		t.Fatalf("Due(%d) = %d, %d, want %d, %d", id, d, e, want, wantErr)
	}
}

// P1.1
func TestNew(t *testing.T) {
	for _, now := range []uint64{0, 1, 15, 16, 1 << 59, api.MaxTick} {
		w := at(t, now)
		if w.Now() != now || w.Len() != 0 {
			t.Errorf("New(%d): Now %d, Len %d", now, w.Now(), w.Len())
		}
	}
	for _, now := range []uint64{api.MaxTick + 1, math.MaxUint64} {
		if w, e := wheel.New(now); w != nil || e != api.ErrArg {
			t.Errorf("New(%d) = %v, %d", now, w, e)
		}
	}
}

// P1.1
func TestArmTellsWhenItIsDue(t *testing.T) {
	w := at(t, 100)
	ids := []int{0, 1, -1, math.MaxInt, math.MinInt}
	for i, id := range ids {
		arm(t, w, id, uint64(i+1))
	}
	for i, id := range ids {
		due(t, w, id, uint64(101+i), api.OK)
	}
	if w.Len() != len(ids) || w.Now() != 100 {
		t.Errorf("Len %d, Now %d", w.Len(), w.Now())
	}
}

// P1.1
func TestArmAgainMovesTheTimer(t *testing.T) {
	w := at(t, 0)
	arm(t, w, 1, 1)
	arm(t, w, 1, 40)
	arm(t, w, 2, 5)
	arm(t, w, 2, 3)
	due(t, w, 1, 40, api.OK)
	due(t, w, 2, 3, api.OK)
	if w.Len() != 2 {
		t.Errorf("Len %d", w.Len())
	}
	for i := 1; i <= 50; i++ {
		switch i {
		case 3:
			tick(t, w, 2)
		case 40:
			tick(t, w, 1)
		default:
			tick(t, w)
		}
	}
}

// P1.1
func TestArmRefusesWrongTicks(t *testing.T) {
	for _, now := range []uint64{0, 1, 5, api.MaxTick - 1, api.MaxTick} {
		w := at(t, now)
		beyond := api.MaxTick - now + 1
		for _, in := range []uint64{0, beyond, math.MaxUint64, math.MaxUint64 - now, math.MaxUint64 - now + 1} {
			if in >= 1 && in < beyond {
				continue
			}
			if e := w.Arm(1, in); e != api.ErrArg {
				t.Errorf("at %d: Arm(1, %d) = %d", now, in, e)
			}
		}
		if w.Len() != 0 {
			t.Errorf("at %d: Len %d", now, w.Len())
		}
		if now < api.MaxTick {
			arm(t, w, 1, api.MaxTick-now)
			due(t, w, 1, api.MaxTick, api.OK)
		}
	}
}

// P1.1
func TestArmThatIsRefusedChangesNothing(t *testing.T) {
	w := at(t, 10)
	arm(t, w, 1, 2)
	arm(t, w, 2, 2)
	for _, in := range []uint64{0, api.MaxTick, math.MaxUint64} {
		if e := w.Arm(1, in); e != api.ErrArg {
			t.Fatalf("Arm(1, %d) = %d", in, e)
		}
	}
	due(t, w, 1, 12, api.OK)
	tick(t, w)
	tick(t, w, 1, 2)
}

// P1.1
func TestCancel(t *testing.T) {
	w := at(t, 0)
	if e := w.Cancel(1); e != api.ErrNone {
		t.Errorf("Cancel of none = %d", e)
	}
	for id := range 5 {
		arm(t, w, id, 2)
	}
	for _, id := range []int{0, 4, 2} {
		if e := w.Cancel(id); e != api.OK {
			t.Errorf("Cancel(%d) = %d", id, e)
		}
		if e := w.Cancel(id); e != api.ErrNone {
			t.Errorf("Cancel(%d) once more = %d", id, e)
		}
		due(t, w, id, 0, api.ErrNone)
	}
	if w.Len() != 2 {
		t.Errorf("Len %d", w.Len())
	}
	tick(t, w)
	tick(t, w, 1, 3)
}

// P1.2
func TestTickOrderIsThatOfTheLastArming(t *testing.T) {
	w := at(t, 0)
	arm(t, w, 1, 2)
	arm(t, w, 2, 1)
	arm(t, w, 2, 2)
	tick(t, w)
	tick(t, w, 1, 2)

	arm(t, w, 7, 20)
	arm(t, w, 9, 20)
	arm(t, w, 8, 20)
	arm(t, w, 7, 20)
	for range 18 {
		tick(t, w)
	}
	arm(t, w, 6, 2)
	arm(t, w, 9, 2)
	tick(t, w)
	arm(t, w, 5, 1)
	tick(t, w, 8, 7, 6, 9, 5)
}

// P1.2
func TestTickDisarms(t *testing.T) {
	w := at(t, 3)
	arm(t, w, 1, 1)
	arm(t, w, 2, 2)
	tick(t, w, 1)
	due(t, w, 1, 0, api.ErrNone)
	if e := w.Cancel(1); e != api.ErrNone || w.Len() != 1 || w.Now() != 4 {
		t.Errorf("Cancel %d, Len %d, Now %d", e, w.Len(), w.Now())
	}
	arm(t, w, 1, 1)
	tick(t, w, 2, 1)
	for range 300 {
		tick(t, w)
	}
}

// P1.2: far timers come nearer slot by slot.
func TestTickFindsFarTimers(t *testing.T) {
	w := at(t, 0)
	dues := []uint64{15, 16, 17, 255, 256, 257, 4095, 4096, 65535, 65536, 65552, 1<<20 + 3, 1 << 21}
	for i, d := range dues {
		arm(t, w, i, d)
	}
	arm(t, w, -1, api.MaxTick)
	next := 0
	for next < len(dues) {
		l, e := w.Tick()
		if e != api.OK {
			t.Fatalf("Tick to %d: %d", w.Now(), e)
		}
		if w.Now() < dues[next] {
			if len(l) != 0 {
				t.Fatalf("tick %d: %v", w.Now(), l)
			}
			continue
		}
		if !slices.Equal(l, []int{next}) {
			t.Fatalf("tick %d: %v, want %d", w.Now(), l, next)
		}
		next++
	}
	due(t, w, -1, api.MaxTick, api.OK)
}

// P1.2
func TestTickAtTheEnd(t *testing.T) {
	w := at(t, api.MaxTick-20)
	arm(t, w, 1, 20)
	arm(t, w, 2, 19)
	arm(t, w, 3, 20)
	for range 18 {
		tick(t, w)
	}
	tick(t, w, 2)
	tick(t, w, 1, 3)
	for range 2 {
		if l, e := w.Tick(); len(l) != 0 || e != api.ErrArg {
			t.Errorf("Tick at MaxTick = %v, %d", l, e)
		}
		if w.Now() != api.MaxTick || w.Len() != 0 {
			t.Errorf("Now %d, Len %d", w.Now(), w.Len())
		}
	}
}

// The rule 'Memory' at P1.2: an answer is the caller's.
func TestTickAnswersNewMemory(t *testing.T) {
	w := at(t, 0)
	arm(t, w, 1, 1)
	arm(t, w, 2, 1)
	arm(t, w, 3, 2)
	arm(t, w, 4, 17)
	l, _ := w.Tick()
	for i := range l[:cap(l)] {
		l[:cap(l)][i] = 99
	}
	tick(t, w, 3)
	for range 14 {
		tick(t, w)
	}
	tick(t, w, 4)
}

// P1 and the rule 'A nil object'.
func TestNil(t *testing.T) {
	var w *wheel.Wheel
	if w.Now() != 0 || w.Len() != 0 {
		t.Errorf("Now %d, Len %d", w.Now(), w.Len())
	}
	for _, in := range []uint64{0, 1, math.MaxUint64} {
		if e := w.Arm(1, in); e != api.ErrNone {
			t.Errorf("Arm(1, %d) = %d", in, e)
		}
	}
	if e := w.Cancel(1); e != api.ErrNone {
		t.Errorf("Cancel = %d", e)
	}
	if d, e := w.Due(1); d != 0 || e != api.ErrNone {
		t.Errorf("Due = %d, %d", d, e)
	}
	if l, e := w.Tick(); len(l) != 0 || e != api.ErrNone {
		t.Errorf("Tick = %v, %d", l, e)
	}
}

// armed is a timer of the model: a list of timers in the order in which they were armed last.
type armed struct {
	id  int
	due uint64
}

type model struct {
	now    uint64
	timers []armed
}

func (m *model) drop(id int) bool {
	before := len(m.timers)
	m.timers = slices.DeleteFunc(m.timers, func(a armed) bool { return a.id == id })
	return len(m.timers) < before
}

func (m *model) tick() []int {
	m.now++
	var l []int
	for _, a := range m.timers {
		if a.due == m.now {
			l = append(l, a.id)
		}
	}
	for _, id := range l {
		m.drop(id)
	}
	return l
}

func compare(t *testing.T, w *wheel.Wheel, m *model) {
	t.Helper()
	if w.Len() != len(m.timers) || w.Now() != m.now {
		t.Fatalf("Len %d, Now %d, want %d, %d", w.Len(), w.Now(), len(m.timers), m.now)
	}
	for _, a := range m.timers {
		due(t, w, a.id, a.due, api.OK)
	}
}

// P1.1, P1.2: the wheel does as a plain list does, over ticks at which levels go round.
func TestAsTheModel(t *testing.T) {
	spans := []uint64{3, 20, 300, 5000}
	for i, now := range []uint64{0, 14, 250, 4090, 65530, 1<<32 - 9, 1<<56 - 100, api.MaxTick - 20000} {
		r := rand.New(rand.NewSource(int64(i)))
		w, m := at(t, now), &model{now: now}
		for range 6000 {
			id := r.Intn(24)
			switch r.Intn(6) {
			case 0, 1:
				in := 1 + uint64(r.Int63n(int64(spans[r.Intn(len(spans))])))
				arm(t, w, id, in)
				m.drop(id)
				m.timers = append(m.timers, armed{id, m.now + in})
			case 2:
				if had := m.drop(id); had != (w.Cancel(id) == api.OK) {
					t.Fatalf("Cancel(%d): was armed: %t", id, had)
				}
			default:
				tick(t, w, m.tick()...)
			}
			compare(t, w, m)
		}
	}
}

// P1.2: many timers of one tick, out of several slots.
func TestManyAtOnce(t *testing.T) {
	w := at(t, 7)
	const many, end = 2000, 5000
	var want []int
	for i := range many {
		for w.Now() < 7+uint64(i*2) {
			tick(t, w)
		}
		arm(t, w, many-i, end-w.Now())
		want = append(want, many-i)
	}
	for w.Now() < end-1 {
		tick(t, w)
	}
	if slices.IsSortedFunc(want, cmp.Compare[int]) {
		t.Fatal("the order of arming must not be that of the numbers")
	}
	tick(t, w, want...)
}
