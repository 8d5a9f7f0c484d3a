package frame

import (
	"math"

	"folkmoot/api"
	"folkmoot/code"
	"folkmoot/ident"
)

// readFrame: the parts of a frame, in the order in which they are written. Whether they make a frame that is right is for the caller to ask.
func readFrame(r *code.Reader) api.Frame {
	// Numbers as small as these are the same byte whether they are written as one or by code.Uint.
	f := api.Frame{Kind: byte(r.Int(int(api.FDown))), From: readNode(r)}
	if f.Kind != api.FBeat {
		f.ID = readView(r)
	}
	switch f.Kind {
	case api.FBeat:
		f.Cur = readView(r)
		f.Prom = readView(r)
	case api.FPropose:
		f.Set = readSet(r)
	case api.FAccept:
		f.States = readList(r, readState)
	case api.FRefuse:
		f.Prom = readView(r)
	case api.FCommit:
		f.Set = readSet(r)
		f.States = readList(r, readState)
	case api.FUp:
		f.Base = r.Uint()
		f.Ack = r.Uint()
		f.Msgs = readList(r, readMessage)
	case api.FDown:
		f.Base = r.Uint()
		f.Ack = r.Uint()
		f.Safe = r.Uint()
		f.Items = readList(r, readItem)
	}
	return f
}

// readList: how many parts, and the parts. It ends at the first fault, so that a number alone can't make it long.
func readList[T any](r *code.Reader, readPart func(*code.Reader) T) []T {
	var l []T
	for range r.Int(Most) {
		x := readPart(r)
		if r.Bad() {
			return nil
		}
		l = append(l, x)
	}
	return l
}

func readState(r *code.Reader) api.State {
	s := api.State{V: readView(r), Floor: r.Int(math.MaxInt)}
	s.Items = readList(r, readItem)
	return s
}

func readItem(r *code.Reader) api.Item {
	return api.Item{From: readNode(r), M: readMessage(r)}
}

func readMessage(r *code.Reader) []byte {
	return r.Bytes(api.MaxBytes)
}

func readView(r *code.Reader) api.ViewID {
	// Where there is none the reader has a fault.
	v, _ := ident.Decode(r)
	return v
}

func readNode(r *code.Reader) int {
	return r.Int(api.MaxNodes - 1)
}

func readSet(r *code.Reader) uint16 {
	return uint16(r.Int(math.MaxUint16))
}
