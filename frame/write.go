package frame

import (
	"folkmoot/api"
	"folkmoot/code"
	"folkmoot/ident"
)

// writer lays parts one behind the other. When they become too many it stops: a small frame may name the same long message many times, and all of that would fill the memory.
type writer struct {
	done []byte
	long bool
}

// fits: is there room for so many bytes more? If not, nothing more is laid.
func (w *writer) fits(n int) bool {
	if n > api.MaxBytes-len(w.done) {
		w.long = true
	}
	return !w.long
}

func (w *writer) lay(p ...byte) {
	if w.fits(len(p)) {
		w.done = append(w.done, p...)
	}
}

func (w *writer) number(n uint64) {
	w.lay(code.Uint(nil, n)...)
}

func (w *writer) view(v api.ViewID) {
	// There is no error: all numbers of a frame that is right are.
	p, _ := ident.Encode(nil, v)
	w.lay(p...)
}

func (w *writer) message(m []byte) {
	if w.fits(len(m)) {
		w.lay(code.Bytes(nil, m)...)
	}
}

func (w *writer) items(l []api.Item) {
	w.number(uint64(len(l)))
	for _, x := range l {
		w.lay(byte(x.From))
		w.message(x.M)
	}
}

func (w *writer) states(l []api.State) {
	w.number(uint64(len(l)))
	for _, s := range l {
		w.view(s.V)
		w.number(uint64(s.Floor))
		w.items(s.Items)
	}
}

func (w *writer) messages(l [][]byte) {
	w.number(uint64(len(l)))
	for _, m := range l {
		w.message(m)
	}
}

// frame: all parts of a frame that is right.
func (w *writer) frame(f api.Frame) {
	w.lay(f.Kind, byte(f.From))
	if f.Kind != api.FBeat {
		w.view(f.ID)
	}
	switch f.Kind {
	case api.FBeat:
		w.view(f.Cur)
		w.view(f.Prom)
	case api.FPropose:
		w.number(uint64(f.Set))
	case api.FAccept:
		w.states(f.States)
	case api.FRefuse:
		w.view(f.Prom)
	case api.FCommit:
		w.number(uint64(f.Set))
		w.states(f.States)
	case api.FUp:
		w.number(f.Base)
		w.number(f.Ack)
		w.messages(f.Msgs)
	case api.FDown:
		w.number(f.Base)
		w.number(f.Ack)
		w.number(f.Safe)
		w.items(f.Items)
	}
}
