package content

import (
	"math"

	"folkmoot/api"
	"folkmoot/code"
	"folkmoot/ident"
	"folkmoot/label"
)

// The kinds of a view's messages.
const (
	One byte = 1
	All byte = 2
)

// EncodeOne: an entry as a view's message.
func EncodeOne(x api.Entry) ([]byte, api.Errno) {
	if !Form(x) {
		return nil, api.ErrForm
	}
	return addEntry([]byte{One}, x), api.OK
}

// EncodeAll: a summary as a view's message.
func EncodeAll(s api.Summary) ([]byte, api.Errno) {
	if !Right(s) {
		return nil, api.ErrForm
	}
	p := addNumber([]byte{All}, len(s.Con))
	for _, x := range s.Con {
		p = addEntry(p, x)
	}
	p = addNumber(p, len(s.Ord))
	for _, l := range s.Ord {
		p = addLabel(p, l)
	}
	return ident.Encode(addNumber(p, s.Next), s.High)
}

// addEntry and those below lay bytes behind p by append: p is of this package's own making, and a long one isn't copied for each part.
func addEntry(p []byte, x api.Entry) []byte {
	return append(addLabel(p, x.L), code.Bytes(nil, x.M)...)
}

func addLabel(p []byte, l api.Label) []byte {
	// There is no error: all labels of what is right are.
	b, _ := label.Encode(nil, l)
	return append(p, b...)
}

func addNumber(p []byte, n int) []byte {
	return append(p, code.Uint(nil, uint64(n))...)
}

// Decode: the entry, or the summary, of a view's message, and which of both it is.
func Decode(b []byte) (byte, api.Entry, api.Summary, api.Errno) {
	r := code.NewReader(b)
	// A number as small as these is the same byte whether it is written as one or by code.Uint.
	kind := byte(r.Int(int(All)))
	var x api.Entry
	var s api.Summary
	right := false
	switch kind {
	case One:
		x = readEntry(r)
		right = Form(x)
	case All:
		s = readSummary(r)
		right = Right(s)
	}
	if !right || r.Bad() || r.Left() > 0 {
		return 0, api.Entry{}, api.Summary{}, api.ErrForm
	}
	return kind, x, s, api.OK
}

// readSummary: the parts of a summary, in the order in which they are written. Whether they make one that is right is for the caller to ask.
func readSummary(r *code.Reader) api.Summary {
	s := api.Summary{Con: readList(r, readEntry)}
	s.Ord = readList(r, readLabel)
	s.Next = r.Int(math.MaxInt)
	// Where there is none the reader has a fault.
	s.High, _ = ident.Decode(r)
	return s
}

// readList: how many parts, and the parts. It ends at the first fault, so that a number alone can't make it long.
func readList[T any](r *code.Reader, readPart func(*code.Reader) T) []T {
	var l []T
	for range r.Int(math.MaxInt) {
		x := readPart(r)
		if r.Bad() {
			return nil
		}
		l = append(l, x)
	}
	return l
}

func readEntry(r *code.Reader) api.Entry {
	l := readLabel(r)
	return api.Entry{L: l, M: r.Bytes(api.MaxMsg)}
}

func readLabel(r *code.Reader) api.Label {
	// Where there is none the reader has a fault.
	l, _ := label.Decode(r)
	return l
}
