package frame

import (
	"slices"

	"folkmoot/api"
	"folkmoot/cut"
	"folkmoot/ident"
)

// right: is it a frame of which there are bytes, if they aren't too many?
func right(f api.Frame) bool {
	if f.From < 0 || f.From >= api.MaxNodes || !rightNumbers(f) || !rightLists(f) {
		return false
	}
	rest, known := unnamed(f)
	return known && isZero(rest)
}

func rightNumbers(f api.Frame) bool {
	if f.Kind != api.FBeat && f.ID.N == 0 {
		return false
	}
	return ident.Form(f.ID) && ident.Form(f.Cur) && ident.Form(f.Prom)
}

func rightLists(f api.Frame) bool {
	if f.Kind == api.FAccept && len(f.States) != 1 {
		return false
	}
	if len(f.States) > Most || len(f.Msgs) > Most || !rightItems(f.Items) {
		return false
	}
	return !slices.ContainsFunc(f.States, func(s api.State) bool { return len(s.Items) > Most || !cut.Form(s) })
}

func rightItems(l []api.Item) bool {
	if len(l) > Most {
		return false
	}
	return !slices.ContainsFunc(l, func(x api.Item) bool { return x.From < 0 || x.From >= api.MaxNodes })
}

// unnamed: the frame without what its kind names; false: there is no such kind.
func unnamed(f api.Frame) (api.Frame, bool) {
	kind := f.Kind
	f.Kind, f.From = 0, 0
	if kind != api.FBeat {
		f.ID = api.ViewID{}
	}
	switch kind {
	case api.FBeat:
		f.Cur, f.Prom = api.ViewID{}, api.ViewID{}
	case api.FPropose:
		f.Set = 0
	case api.FAccept:
		f.States = nil
	case api.FRefuse:
		f.Prom = api.ViewID{}
	case api.FCommit:
		f.Set, f.States = 0, nil
	case api.FUp:
		f.Base, f.Msgs, f.Ack = 0, nil, 0
	case api.FDown:
		f.Base, f.Items, f.Ack, f.Safe = 0, nil, 0, 0
	default:
		return api.Frame{}, false
	}
	return f, true
}

func isZero(f api.Frame) bool {
	none := api.ViewID{}
	numbers := f.Kind == 0 && f.From == 0 && f.Set == 0 && f.Base == 0 && f.Ack == 0 && f.Safe == 0
	views := f.ID == none && f.Cur == none && f.Prom == none
	return numbers && views && len(f.States) == 0 && len(f.Msgs) == 0 && len(f.Items) == 0
}
