package total_test

import (
	"bytes"
	"fmt"
	"math/rand"
	"slices"
	"testing"

	"folkmoot/api"
	"folkmoot/content"
	"folkmoot/exchange"
	"folkmoot/ident"
	"folkmoot/label"
	"folkmoot/total"
)

// model is a node as the chapter tells it, word by word, by the layers below.
type model struct {
	n, self, queue, accepted int
	delay                    [][]byte
	view                     api.View
	in                       bool
	status                   string
	seq                      uint64
	buffer, con              []api.Entry
	order, safe              []api.Label
	next, report             int
	high                     api.ViewID
	told                     []exchange.Told
	safeFrom                 uint16
}

func (o *model) bcast(m []byte) api.Errno {
	if len(m) > 64 {
		return api.ErrLong
	}
	if o.accepted == 64 || len(o.delay) == o.queue {
		return api.ErrBusy
	}
	o.accepted++
	o.delay = append(o.delay, bytes.Clone(m))
	o.labelled()
	return api.OK
}

func (o *model) labelled() {
	for o.in && len(o.delay) > 0 {
		o.seq++
		x := api.Entry{L: of(o.view.ID, o.seq, o.self), M: o.delay[0]}
		o.delay = o.delay[1:]
		o.con = content.Put(o.con, x)
		o.buffer = append(o.buffer, x)
	}
}

func (o *model) enter(v api.View) api.Errno {
	if !ident.Above(v.ID, o.view.ID) || !ident.Has(v.Set, o.self) {
		return api.ErrStale
	}
	o.view, o.in, o.status, o.seq = v, v.ID.N > 0, "send", 0
	o.buffer, o.told, o.safeFrom, o.safe = nil, nil, 0, nil
	o.labelled()
	return api.OK
}

func (o *model) summary() api.Summary {
	return api.Summary{Con: o.con, Ord: o.order, Next: o.next, High: o.high}
}

func (o *model) toSend() ([]byte, bool) {
	if !o.in {
		return nil, false
	}
	if o.status == "send" {
		m, e := content.EncodeAll(o.summary())
		return m, e == api.OK
	}
	if o.status == "normal" && len(o.buffer) > 0 {
		m, e := content.EncodeOne(o.buffer[0])
		return m, e == api.OK
	}
	return nil, false
}

func (o *model) sent() api.Errno {
	if _, ok := o.toSend(); !ok {
		return api.ErrState
	}
	if o.status == "send" {
		o.status = "collect"
	} else {
		o.buffer = o.buffer[1:]
	}
	return api.OK
}

func (o *model) wrong(from int, m []byte) api.Errno {
	if !o.in {
		return api.ErrState
	}
	if !ident.Has(o.view.Set, from) {
		return api.ErrArg
	}
	_, _, _, e := content.Decode(m)
	return e
}

func (o *model) primary() bool {
	return o.in && 2*ident.Count(o.view.Set) > o.n
}

func (o *model) recv(from int, m []byte) api.Errno {
	if e := o.wrong(from, m); e != api.OK {
		return e
	}
	kind, x, s, _ := content.Decode(m)
	if kind == content.One {
		o.con = content.Put(o.con, x)
		if o.primary() {
			o.order = label.Behind(o.order, []api.Label{x.L})
		}
		return api.OK
	}
	for _, y := range o.told {
		if y.Node == from {
			return api.ErrState
		}
	}
	o.con = content.Merge(o.con, s.Con)
	o.told = append(o.told, exchange.Told{Node: from, S: s})
	o.settled()
	return api.OK
}

func (o *model) settled() {
	if len(o.told) != ident.Count(o.view.Set) || o.status != "collect" {
		return
	}
	o.next, o.status = exchange.Next(o.told), "normal"
	if o.primary() {
		o.order, o.high = exchange.Full(o.told), o.view.ID
	} else {
		o.order, o.high = exchange.Short(o.told), exchange.High(o.told)
	}
}

func (o *model) safely(from int, m []byte) api.Errno {
	if e := o.wrong(from, m); e != api.OK || !o.primary() {
		return e
	}
	kind, x, _, _ := content.Decode(m)
	if kind == content.One {
		o.safe = append(o.safe, x.L)
	} else {
		o.safeFrom |= 1 << from
		if o.safeFrom == o.view.Set {
			o.safe = append(o.safe, exchange.Full(o.told)...)
		}
	}
	for o.next <= len(o.order) && slices.Contains(o.safe, o.order[o.next-1]) {
		o.next++
	}
	return api.OK
}

func (o *model) take() (api.Item, api.Errno) {
	if o.report >= o.next || o.report > len(o.order) {
		return api.Item{}, api.ErrNone
	}
	l := o.order[o.report-1]
	m, ok := content.Find(o.con, l)
	if !ok {
		return api.Item{}, api.ErrNone
	}
	o.report++
	return api.Item{From: l.P, M: m}, api.OK
}

// pair is a node, and what it should be.
type pair struct {
	t    *testing.T
	r    *rand.Rand
	x    *total.Total
	o    *model
	sent [][]byte // what it has sent of late
	done string
}

func pairOf(t *testing.T, seed int64) *pair {
	r := rand.New(rand.NewSource(seed))
	n := 1 + r.Intn(4)
	o := &model{n: n, self: r.Intn(n), queue: 1 + r.Intn(5), next: 1, report: 1}
	return &pair{t: t, r: r, x: nodeOf(t, n, o.self, o.queue), o: o}
}

func (p *pair) anyLabel() api.Label {
	return of(id(1+uint64(p.r.Intn(3)), p.r.Intn(2)), 1+uint64(p.r.Intn(3)), p.r.Intn(3))
}

func (p *pair) anySummary() api.Summary {
	s := api.Summary{High: id(uint64(p.r.Intn(4)), 0)}
	for range p.r.Intn(4) {
		s.Con = content.Put(s.Con, api.Entry{L: p.anyLabel(), M: make([]byte, p.r.Intn(3))})
	}
	for range p.r.Intn(4) {
		s.Ord = label.Behind(s.Ord, []api.Label{p.anyLabel()})
	}
	s.Next = 1 + p.r.Intn(len(s.Ord)+1)
	return s
}

// anyMessage: what might come in a view, or something else.
func (p *pair) anyMessage() []byte {
	switch x := p.r.Intn(20); {
	case x < 6 && len(p.sent) > 0:
		return p.sent[p.r.Intn(len(p.sent))]
	case x < 10:
		return oneOf(p.t, p.anyLabel(), "mmm"[:p.r.Intn(4)])
	case x == 19:
		b := make([]byte, p.r.Intn(6))
		p.r.Read(b)
		return b
	case x == 18:
		b := all(p.t, p.anySummary())
		b[p.r.Intn(len(b))] ^= 1 << p.r.Intn(8)
		return b
	}
	return all(p.t, p.anySummary())
}

func (p *pair) anyView() api.View {
	v := api.View{ID: p.o.view.ID, Set: ident.With(uint16(p.r.Intn(16)), p.o.self)}
	v.ID.N += uint64(p.r.Intn(3))
	v.ID.P = p.r.Intn(3)
	if p.r.Intn(30) == 0 {
		v.ID.P = api.MaxNodes
	}
	if p.r.Intn(8) == 0 {
		v.Set = ident.Without(v.Set, p.o.self)
	}
	return v
}

// step: one call, told to both.
func (p *pair) step() {
	p.t.Helper()
	var a, b any
	from := p.r.Intn(5) - p.r.Intn(2)
	switch x := p.r.Intn(40); {
	case x < 5:
		m := make([]byte, p.r.Intn(3))
		if p.r.Intn(10) == 0 {
			m = make([]byte, 63+p.r.Intn(3))
		}
		p.done = fmt.Sprint("Bcast", m)
		a, b = p.x.Bcast(m), p.o.bcast(m)
	case x < 8:
		v := p.anyView()
		p.done = fmt.Sprint("View", v)
		a, b = p.x.View(v), p.o.enter(v)
	case x < 16:
		if m, ok := p.o.toSend(); ok {
			p.sent = append(p.sent, m)
		}
		p.done = "Sent"
		a, b = p.x.Sent(), p.o.sent()
	case x < 27:
		m := p.anyMessage()
		p.done = fmt.Sprint("Recv", from, m)
		a, b = p.x.Recv(from, m), p.o.recv(from, m)
	case x < 37:
		m := p.anyMessage()
		p.done = fmt.Sprint("Safe", from, m)
		a, b = p.x.Safe(from, m), p.o.safely(from, m)
	default:
		p.done = "Take"
		i, e := p.x.Take()
		k, f := p.o.take()
		a, b = fmt.Sprint(i, e), fmt.Sprint(k, f)
	}
	if a != b {
		p.t.Fatalf("%s = %v, want %v", p.done, a, b)
	}
}

// alike: both tell the same.
func (p *pair) alike() {
	p.t.Helper()
	knows(p.t, p.x, p.o.summary())
	m, ok := p.x.Next()
	if k, still := p.o.toSend(); !bytes.Equal(m, k) || ok != still {
		p.t.Fatalf("%s: Next = % x, %t, want % x, %t", p.done, m, ok, k, still)
	}
	if p.x.Waiting() != len(p.o.delay) || p.x.Primary() != p.o.primary() {
		p.t.Fatalf("%s: Waiting = %d, Primary = %t", p.done, p.x.Waiting(), p.x.Primary())
	}
}

// P17.1 to P17.4, P1: whatever is told, in whatever order, all is as the chapter says.
func TestAsTheChapterSays(t *testing.T) {
	settled, stuck, none, taken := 0, 0, 0, 0
	for seed := range int64(1200) {
		p := pairOf(t, seed)
		for range 120 {
			p.step()
			p.alike()
			switch {
			case p.o.status == "normal":
				settled++
			case p.o.status == "collect" && len(p.o.told) == ident.Count(p.o.view.Set):
				stuck++
			case p.o.view.Set != 0 && !p.o.in:
				none++
			}
		}
		taken += p.o.report - 1
	}
	if settled < 10000 || stuck < 300 || none < 300 || taken < 300 {
		t.Errorf("only %d steps in a view in which all have told, %d where they had too early, %d with a number of no view, and %d messages", settled, stuck, none, taken)
	}
}

// P2: what is answered hangs on what was told alone.
func TestSameAgain(t *testing.T) {
	for seed := range int64(20) {
		var texts [2]string
		for i := range texts {
			p := pairOf(t, seed)
			for range 200 {
				p.step()
				m, ok := p.x.Next()
				texts[i] += fmt.Sprint(p.x.Summary(), m, ok)
			}
		}
		if texts[0] != texts[1] {
			t.Fatalf("%d: it goes otherwise the second time", seed)
		}
	}
}
