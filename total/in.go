package total

import (
	"bytes"
	"slices"

	"folkmoot/api"
	"folkmoot/content"
	"folkmoot/exchange"
	"folkmoot/ident"
)

// Recv: a message of the view is received.
func (t *Total) Recv(from int, m []byte) api.Errno {
	kind, x, s, e := t.read(from, m)
	if e != api.OK {
		return e
	}
	if kind == content.All {
		return t.hear(exchange.Told{Node: from, S: s})
	}
	t.con.put(x)
	if t.Primary() {
		t.order.put(x.L)
	}
	return api.OK
}

// read: what a message of the view holds.
func (t *Total) read(from int, m []byte) (byte, api.Entry, api.Summary, api.Errno) {
	e := api.OK
	switch {
	case t == nil:
		e = api.ErrNone
	case !t.inView():
		e = api.ErrState
	case !ident.Has(t.view.Set, from):
		e = api.ErrArg
	}
	if e != api.OK {
		return 0, api.Entry{}, api.Summary{}, e
	}
	return content.Decode(m)
}

// hear: somebody tells a summary.
func (t *Total) hear(x exchange.Told) api.Errno {
	before := func(y exchange.Told) bool { return y.Node == x.Node }
	if slices.ContainsFunc(t.told, before) {
		return api.ErrState
	}
	for _, y := range x.S.Con {
		t.con.put(y)
	}
	t.told = append(t.told, x)
	t.settle()
	return api.OK
}

// settle: when the last of the view tells, all go on from one order. If the own summary isn't sent by then, nothing follows from it in this view.
func (t *Total) settle() {
	if t.status != Collect || len(t.told) < ident.Count(t.view.Set) {
		return
	}
	t.next = exchange.Next(t.told)
	if t.Primary() {
		t.order = newLine(exchange.Full(t.told))
		t.high = t.view.ID
	} else {
		t.order = newLine(exchange.Short(t.told))
		t.high = exchange.High(t.told)
	}
	t.status = Normal
}

// Safe: a message of the view is safe.
func (t *Total) Safe(from int, m []byte) api.Errno {
	kind, x, _, e := t.read(from, m)
	// In any other view nothing is confirmed, whatever is safe.
	if e != api.OK || !t.Primary() {
		return e
	}
	if kind == content.One {
		t.mark(x.L)
	} else {
		t.markFrom(from)
	}
	t.confirm()
	return api.OK
}

func (t *Total) mark(l api.Label) {
	t.safe[l] = struct{}{}
}

// markFrom: somebody's summary is safe. When all are, all of the view know the order from which they go on.
func (t *Total) markFrom(from int) {
	t.safeFrom = ident.With(t.safeFrom, from)
	if t.safeFrom != t.view.Set {
		return
	}
	for _, l := range exchange.Full(t.told) {
		t.mark(l)
	}
}

// confirm: next goes on as far as labels are safe.
func (t *Total) confirm() {
	for l, ok := t.order.at(t.next); ok; l, ok = t.order.at(t.next) {
		if _, safe := t.safe[l]; !safe {
			return
		}
		t.next++
	}
}

// Take: the next message of the one order.
func (t *Total) Take() (api.Item, api.Errno) {
	if t == nil || t.report >= t.next {
		return api.Item{}, api.ErrNone
	}
	l, ok := t.order.at(t.report)
	m, known := t.con[l]
	if !ok || !known {
		return api.Item{}, api.ErrNone
	}
	t.report++
	return api.Item{From: l.P, M: bytes.Clone(m)}, api.OK
}
