package exchange_test

import (
	"bytes"
	"slices"
	"testing"

	"folkmoot/api"
	"folkmoot/exchange"
)

// roomy: the same, with other things in the room behind all lists.
func roomy(l []exchange.Told) []exchange.Told {
	r := make([]exchange.Told, 0, len(l)+2)
	for _, x := range l {
		x.S.Con = append(slices.Clone(x.S.Con), entries("yrest zrest")...)[:len(x.S.Con)]
		for i, e := range x.S.Con {
			x.S.Con[i].M = append(bytes.Clone(e.M), "rest"...)[:len(e.M)]
		}
		x.S.Ord = append(slices.Clone(x.S.Ord), labels("yz")...)[:len(x.S.Ord)]
		r = append(r, x)
	}
	return append(r, of(9, view(99, 9), "y"), of(9, view(99, 9), "z"))[:len(l)]
}

// sameRoom: are they the same, with all room behind them?
func sameRoom(a, b []exchange.Told) bool {
	return slices.EqualFunc(a[:cap(a)], b[:cap(b)], func(x, y exchange.Told) bool {
		con := slices.EqualFunc(x.S.Con[:cap(x.S.Con)], y.S.Con[:cap(y.S.Con)], func(p, q api.Entry) bool {
			return p.L == q.L && bytes.Equal(p.M[:cap(p.M)], q.M[:cap(q.M)])
		})
		ord := slices.Equal(x.S.Ord[:cap(x.S.Ord)], y.S.Ord[:cap(y.S.Ord)])
		return con && ord && x.Node == y.Node && x.S.Next == y.S.Next && x.S.High == y.S.High
	})
}

func scrubLabels(l []api.Label) {
	l = l[:cap(l)]
	for i := range l {
		l[i] = named('w')
	}
}

func scrubEntries(l []api.Entry) {
	l = l[:cap(l)]
	for i := range l {
		m := l[i].M[:cap(l[i].M)]
		for k := range m {
			m[k] ^= 0x55
		}
		l[i].L = named('w')
	}
}

func some() []exchange.Told {
	return list(told(0, "ax cxx", "ca", 2, view(1, 0)), told(2, "bx cy", "bc", 1, view(2, 0)), told(1, "", "", 3, view(2, 0)))
}

// The rule 'Memory' at P16.1.
func TestMemory(t *testing.T) {
	l, was := roomy(some()), roomy(some())
	short, known, full := exchange.Short(l), exchange.Known(l), exchange.Full(l)
	scrubLabels(exchange.Short(l))
	scrubEntries(exchange.Known(l))
	scrubLabels(exchange.Full(l))
	exchange.High(l)
	exchange.Chosen(l)
	exchange.Next(l)
	if !sameRoom(l, was) {
		t.Error("an argument was changed")
	}
	for i := range l {
		scrubEntries(l[i].S.Con)
		scrubLabels(l[i].S.Ord)
	}
	if !slices.Equal(short, labels("bc")) || !same(known, entries("ax bx cxx")) || !slices.Equal(full, labels("bca")) {
		t.Errorf("Short %v, Known %v, Full %v", short, known, full)
	}
}

// The rule 'Memory' at P16.1: a list that is told often is one list of the answer, and its messages are apart.
func TestOneMessageOften(t *testing.T) {
	m := []byte("m")
	l := list(told(0, "a b c", "", 1, view(0, 0)), told(1, "b c d", "", 1, view(0, 0)))
	for i := range l {
		for k := range l[i].S.Con {
			l[i].S.Con[k].M = m
		}
	}
	known := exchange.Known(l)
	for i := range known {
		known[i].M[0] += byte(i)
	}
	if !same(known, entries("am bn co dp")) || string(m) != "m" {
		t.Errorf("Known = %v", known)
	}
}

// P2: what is answered hangs neither on room, nor on what was asked before.
func TestSameAnswers(t *testing.T) {
	a, b := some(), roomy(some())
	for range 2 {
		if exchange.High(a) != exchange.High(b) || exchange.Chosen(a) != exchange.Chosen(b) || exchange.Next(a) != exchange.Next(b) {
			t.Error("numbers differ")
		}
		if !slices.Equal(exchange.Short(a), exchange.Short(b)) || !same(exchange.Known(a), exchange.Known(b)) || !slices.Equal(exchange.Full(a), exchange.Full(b)) {
			t.Error("lists differ")
		}
		exchange.Known(roomy(nil))
		exchange.Full(nil)
	}
}
