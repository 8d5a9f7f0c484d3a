// Package wheel is layer 1: see shared/doc/01-wheel.md.
package wheel

import (
	"cmp"
	"slices"

	"folkmoot/api"
)

const (
	width  = 4          // bits of a tick that one level tells apart
	turn   = 1 << width // slots of a level
	levels = 16         // so many levels tell all bits of MaxTick apart
)

// timer is when a timer is due, how many were armed ahead of it, and its place in its slot.
type timer struct {
	due   uint64
	armed uint64
	place int
}

// Wheel is timers, by when they are due: those that are near in slots of one tick, the others in slots of 16, of 256, and so on.
//
// A timer stands at the highest level at which its tick and Now differ, in the slot of its tick's digit there. While the wheel turns that stays so till Now has come to the slot; hence slot finds it at any time.
type Wheel struct {
	now    uint64
	arms   uint64
	timers map[int]timer
	slots  [levels][turn][]int
}

// New: a wheel at a tick.
func New(now uint64) (*Wheel, api.Errno) {
	if now > api.MaxTick {
		return nil, api.ErrArg
	}
	return &Wheel{now: now, timers: map[int]timer{}}, api.OK
}

// Now: the tick.
func (w *Wheel) Now() uint64 {
	if w == nil {
		return 0
	}
	return w.now
}

// Len: how many timers are armed.
func (w *Wheel) Len() int {
	if w == nil {
		return 0
	}
	return len(w.timers)
}

// Arm: a timer is due in so many ticks; it isn't due any more when it was.
func (w *Wheel) Arm(id int, in uint64) api.Errno {
	if w == nil {
		return api.ErrNone
	}
	// The sum of both might wrap round, the difference doesn't.
	if in == 0 || in > api.MaxTick-w.now {
		return api.ErrArg
	}
	if old, ok := w.timers[id]; ok {
		w.remove(id, old)
	}
	w.put(id, timer{due: w.now + in, armed: w.arms})
	w.arms++
	return api.OK
}

// Cancel: a timer is armed no more.
func (w *Wheel) Cancel(id int) api.Errno {
	if w == nil {
		return api.ErrNone
	}
	t, ok := w.timers[id]
	if !ok {
		return api.ErrNone
	}
	w.remove(id, t)
	return api.OK
}

// Due: when a timer is due.
func (w *Wheel) Due(id int) (uint64, api.Errno) {
	if w == nil {
		return 0, api.ErrNone
	}
	t, ok := w.timers[id]
	if !ok {
		return 0, api.ErrNone
	}
	return t.due, api.OK
}

// Tick: one tick on: the timers that are due, by how they were armed; they are armed no more.
func (w *Wheel) Tick() ([]int, api.Errno) {
	if w == nil {
		return nil, api.ErrNone
	}
	if w.now == api.MaxTick {
		return nil, api.ErrArg
	}
	w.now++
	var due []int
	for _, id := range w.reached() {
		if t := w.timers[id]; t.due > w.now {
			w.put(id, t)
		} else {
			due = append(due, id)
		}
	}
	slices.SortFunc(due, func(a, b int) int {
		return cmp.Compare(w.timers[a].armed, w.timers[b].armed)
	})
	for _, id := range due {
		delete(w.timers, id)
	}
	return due, api.OK
}

// reached empties the slots that Now has just come to: one a level, up to the first level that hasn't gone round.
func (w *Wheel) reached() []int {
	var ids []int
	for l := range levels {
		d := digit(w.now, l)
		ids = append(ids, w.slots[l][d]...)
		w.slots[l][d] = nil
		if d != 0 {
			break
		}
	}
	return ids
}

// slot: where timers that are due at a tick behind Now stand.
func (w *Wheel) slot(due uint64) *[]int {
	l := level(w.now, due)
	return &w.slots[l][digit(due, l)]
}

func (w *Wheel) put(id int, t timer) {
	s := w.slot(t.due)
	t.place = len(*s)
	*s = append(*s, id)
	w.timers[id] = t
}

// remove lets the last timer of the slot take the place, so that no slot keeps what is armed no more.
func (w *Wheel) remove(id int, t timer) {
	s := w.slot(t.due)
	last := len(*s) - 1
	moved := (*s)[last]
	m := w.timers[moved]
	m.place = t.place
	w.timers[moved] = m
	(*s)[t.place] = moved
	*s = (*s)[:last]
	delete(w.timers, id)
}

// level: the highest at which two ticks differ; 0 if they don't.
func level(a, b uint64) int {
	for l := range levels {
		if (a^b)>>(width*(l+1)) == 0 {
			return l
		}
	}
	return levels - 1
}

// digit: which slot of a level a tick falls into.
func digit(tick uint64, l int) int {
	return int(tick >> (width * l) % turn)
}
