package total

import (
	"slices"

	"folkmoot/api"
	"folkmoot/content"
)

// store is messages by their labels. Entries come one by one, but a list of all is asked for only now and then, so that it is made then.
type store map[api.Label][]byte

// put: one more; the first of a label stays.
func (s store) put(x api.Entry) {
	if _, known := s[x.L]; !known {
		s[x.L] = x.M
	}
}

// list: all, by their labels, in new memory.
func (s store) list() []api.Entry {
	l := make([]api.Entry, 0, len(s))
	for at, m := range s {
		l = append(l, api.Entry{L: at, M: m})
	}
	return content.Merge(nil, l)
}

// line is an order of labels, none twice.
type line struct {
	labels []api.Label
	among  map[api.Label]struct{} // those of the order, as it may be too long to be gone through for each label that comes
}

// newLine: an order of these; l is the line's own from now on.
func newLine(l []api.Label) line {
	among := make(map[api.Label]struct{}, len(l))
	for _, x := range l {
		among[x] = struct{}{}
	}
	return line{labels: l, among: among}
}

// put: one more is behind all others, if it isn't among them.
func (o *line) put(x api.Label) {
	if _, in := o.among[x]; in {
		return
	}
	o.among[x] = struct{}{}
	o.labels = append(o.labels, x)
}

// at: the label at a place, the first of which is 1; false: there is none.
func (o *line) at(place int) (api.Label, bool) {
	if place < 1 || place > len(o.labels) {
		return api.Label{}, false
	}
	return o.labels[place-1], true
}

// list: all, in new memory.
func (o *line) list() []api.Label {
	return slices.Clone(o.labels)
}
