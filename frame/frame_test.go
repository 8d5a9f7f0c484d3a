package frame_test

import (
	"bytes"
	"encoding/binary"
	"encoding/hex"
	"hash/crc32"
	"math"
	"math/rand"
	"reflect"
	"runtime"
	"slices"
	"strings"
	"testing"

	"folkmoot/api"
	"folkmoot/frame"
)

const (
	maxFloor = 1 << 30
	maxU     = math.MaxUint64
	sumSize  = 4
)

func view(n uint64, p int) api.ViewID {
	return api.ViewID{N: n, P: p}
}

func item(from int, m string) api.Item {
	return api.Item{From: from, M: []byte(m)}
}

// items: so many empty messages.
func items(n int) []api.Item {
	return make([]api.Item, n)
}

func states(n int, s api.State) []api.State {
	return slices.Repeat([]api.State{s}, n)
}

func unhex(t *testing.T, s string) []byte {
	t.Helper()
	p, err := hex.DecodeString(strings.ReplaceAll(s, " ", ""))
	if err != nil {
		t.Fatal(err)
	}
	return p
}

// sealed: the bytes and their sum, by the library.
func sealed(p []byte) []byte {
	return binary.LittleEndian.AppendUint32(bytes.Clone(p), crc32.ChecksumIEEE(p))
}

// model: the bytes of a frame that is right, as the document tells them, without the seal.
func model(f api.Frame) []byte {
	p := []byte{f.Kind, byte(f.From)}
	number := func(n uint64) { p = binary.AppendUvarint(p, n) }
	viewNumber := func(v api.ViewID) { number(v.N); p = append(p, byte(v.P)) }
	text := func(m []byte) { number(uint64(len(m))); p = append(p, m...) }
	list := func(l []api.Item) {
		number(uint64(len(l)))
		for _, x := range l {
			p = append(p, byte(x.From))
			text(x.M)
		}
	}
	all := func(l []api.State) {
		number(uint64(len(l)))
		for _, s := range l {
			viewNumber(s.V)
			number(uint64(s.Floor))
			list(s.Items)
		}
	}
	switch f.Kind {
	case 1:
		viewNumber(f.Cur)
		viewNumber(f.Prom)
		return p
	case 2:
		viewNumber(f.ID)
		number(uint64(f.Set))
	case 3:
		viewNumber(f.ID)
		all(f.States)
	case 4:
		viewNumber(f.ID)
		viewNumber(f.Prom)
	case 5:
		viewNumber(f.ID)
		number(uint64(f.Set))
		all(f.States)
	case 6:
		viewNumber(f.ID)
		number(f.Base)
		number(f.Ack)
		number(uint64(len(f.Msgs)))
		for _, m := range f.Msgs {
			text(m)
		}
	case 7:
		viewNumber(f.ID)
		number(f.Base)
		number(f.Ack)
		number(f.Safe)
		list(f.Items)
	}
	return p
}

func sameBytes(a, b [][]byte) bool {
	return slices.EqualFunc(a, b, bytes.Equal)
}

func sameItems(a, b []api.Item) bool {
	return slices.EqualFunc(a, b, func(x, y api.Item) bool { return x.From == y.From && bytes.Equal(x.M, y.M) })
}

func sameStates(a, b []api.State) bool {
	return slices.EqualFunc(a, b, func(x, y api.State) bool {
		return x.V == y.V && x.Floor == y.Floor && sameItems(x.Items, y.Items)
	})
}

// same: nil and empty lists are the same.
func same(a, b api.Frame) bool {
	lists := sameStates(a.States, b.States) && sameBytes(a.Msgs, b.Msgs) && sameItems(a.Items, b.Items)
	a.States, a.Msgs, a.Items, b.States, b.Msgs, b.Items = nil, nil, nil, nil, nil, nil
	return lists && reflect.DeepEqual(a, b)
}

func encode(t *testing.T, f api.Frame) []byte {
	t.Helper()
	p, e := frame.Encode(f)
	if e != api.OK {
		t.Fatalf("Encode of a frame of the kind %d: %d", f.Kind, e)
	}
	return p
}

func refused(t *testing.T, what string, f api.Frame, want api.Errno) {
	t.Helper()
	if p, e := frame.Encode(f); e != want || len(p) != 0 {
		t.Errorf("%s: Encode = %d bytes, %d, want none, %d", what, len(p), e, want)
	}
}

func unread(t *testing.T, what string, b []byte, want api.Errno) {
	t.Helper()
	f, e := frame.Decode(b)
	if e != want {
		t.Errorf("%s: Decode = %d, want %d", what, e, want)
	}
	if e != api.OK && !reflect.DeepEqual(f, api.Frame{}) {
		t.Errorf("%s: beside the error stands %v", what, f)
	}
}

// P7.1
func TestBytesOfEachKind(t *testing.T) {
	id := view(300, 2)
	for _, c := range []struct {
		f    api.Frame
		want string
	}{
		{api.Frame{Kind: api.FBeat, From: 1}, "01 01 00 00 00 00"},
		{api.Frame{Kind: api.FBeat, From: 15, Cur: view(1, 15), Prom: view(128, 3)}, "01 0f 01 0f 80 01 03"},
		{api.Frame{Kind: api.FPropose, From: 2, ID: id, Set: 5}, "02 02 ac 02 02 05"},
		{api.Frame{Kind: api.FPropose, ID: id, Set: 0xffff}, "02 00 ac 02 02 ff ff 03"},
		{api.Frame{Kind: api.FAccept, From: 3, ID: id, States: []api.State{{}}}, "03 03 ac 02 02 01 00 00 00 00"},
		{
			api.Frame{Kind: api.FAccept, From: 3, ID: id, States: []api.State{{V: view(7, 4), Floor: 200, Items: []api.Item{item(9, "ab"), item(15, "")}}}},
			"03 03 ac 02 02 01 07 04 c8 01 02 09 02 61 62 0f 00",
		},
		{api.Frame{Kind: api.FRefuse, From: 4, ID: id, Prom: view(301, 1)}, "04 04 ac 02 02 ad 02 01"},
		{api.Frame{Kind: api.FCommit, From: 5, ID: id, Set: 128}, "05 05 ac 02 02 80 01 00"},
		{
			api.Frame{Kind: api.FCommit, From: 5, ID: id, Set: 3, States: []api.State{{V: view(7, 4), Floor: 1}, {}, {V: view(8, 0), Items: []api.Item{item(1, "x")}}}},
			"05 05 ac 02 02 03 03 07 04 01 00 00 00 00 00 08 00 00 01 01 01 78",
		},
		{api.Frame{Kind: api.FUp, From: 6, ID: id, Base: 1, Ack: 128}, "06 06 ac 02 02 01 80 01 00"},
		{api.Frame{Kind: api.FUp, From: 6, ID: id, Base: 1, Ack: 2, Msgs: [][]byte{[]byte("ab"), nil, []byte("c")}}, "06 06 ac 02 02 01 02 03 02 61 62 00 01 63"},
		{api.Frame{Kind: api.FDown, From: 7, ID: id, Base: 1, Ack: 2, Safe: 3}, "07 07 ac 02 02 01 02 03 00"},
		{api.Frame{Kind: api.FDown, From: 7, ID: id, Base: 128, Ack: 2, Safe: 3, Items: []api.Item{item(0, ""), item(14, "ab")}}, "07 07 ac 02 02 80 01 02 03 02 00 00 0e 02 61 62"},
	} {
		want := sealed(unhex(t, c.want))
		if p := encode(t, c.f); !bytes.Equal(p, want) {
			t.Errorf("Encode(%v) = % x, want % x", c.f, p, want)
		}
		if f, e := frame.Decode(want); e != api.OK || !same(f, c.f) {
			t.Errorf("Decode(% x) = %v, %d, want %v", want, f, e, c.f)
		}
	}
	if p := encode(t, api.Frame{Kind: api.FBeat, From: 1}); len(p) != 10 {
		t.Errorf("a beat has %d bytes", len(p))
	}
}

// full: a frame of each kind, with all that it names.
func full() []api.Frame {
	id := view(maxU, 15)
	s := api.State{V: view(1, 1), Floor: maxFloor, Items: []api.Item{item(15, "abc"), item(0, "")}}
	return []api.Frame{
		{Kind: api.FBeat, From: 15, Cur: id, Prom: view(1, 15)},
		{Kind: api.FPropose, From: 15, ID: id, Set: 0xffff},
		{Kind: api.FAccept, From: 15, ID: id, States: []api.State{s}},
		{Kind: api.FRefuse, From: 15, ID: id, Prom: view(maxU, 0)},
		{Kind: api.FCommit, From: 15, ID: id, Set: 0xffff, States: []api.State{s, {}, s, {V: view(2, 0)}}},
		{Kind: api.FUp, From: 15, ID: id, Base: maxU, Msgs: [][]byte{[]byte("ab"), nil, []byte("c")}, Ack: maxU},
		{Kind: api.FDown, From: 15, ID: id, Base: maxU, Items: []api.Item{item(15, "ab"), item(0, ""), item(7, "c")}, Ack: maxU, Safe: maxU},
	}
}

// bare: a frame of each kind, with as little as can be.
func bare() []api.Frame {
	l := []api.Frame{{Kind: api.FBeat}}
	for k := api.FPropose; k <= api.FDown; k++ {
		l = append(l, api.Frame{Kind: k, ID: view(1, 0)})
	}
	l[2].States = []api.State{{}}
	return l
}

// edges: frames that are right, but only just.
func edges() []api.Frame {
	id := view(1, 0)
	most := api.State{V: id, Items: items(frame.Most)}
	return slices.Concat(full(), bare(), []api.Frame{
		{Kind: api.FAccept, ID: id, States: []api.State{most}},
		{Kind: api.FAccept, ID: id, States: []api.State{{V: id, Floor: maxFloor, Items: most.Items}}},
		{Kind: api.FCommit, ID: id, States: states(frame.Most, api.State{})},
		{Kind: api.FCommit, ID: id, States: []api.State{most, most, {}, most}},
		{Kind: api.FUp, ID: id, Msgs: make([][]byte, frame.Most)},
		{Kind: api.FUp, ID: id, Msgs: [][]byte{bytes.Repeat([]byte("m"), frame.Most+1)}},
		{Kind: api.FDown, ID: id, Items: items(frame.Most)},
		{Kind: api.FDown, ID: id, Items: []api.Item{item(3, strings.Repeat("m", 500000))}},
	})
}

// P7.1
func TestEdges(t *testing.T) {
	for _, f := range edges() {
		p := encode(t, f)
		if want := sealed(model(f)); !bytes.Equal(p, want) {
			t.Errorf("Encode of a frame of the kind %d = %d bytes, want %d others", f.Kind, len(p), len(want))
		}
		if g, e := frame.Decode(p); e != api.OK || !same(f, g) {
			t.Errorf("Decode of a frame of the kind %d: %d, or another frame", f.Kind, e)
		}
	}
}

// P7.1: empty lists are none.
func TestEmptyLists(t *testing.T) {
	for i, f := range bare() {
		want := encode(t, f)
		if len(f.States) == 0 {
			f.States = []api.State{}
		}
		f.Msgs, f.Items = [][]byte{}, []api.Item{}
		if p := encode(t, f); !bytes.Equal(p, want) {
			t.Errorf("%d: Encode = % x, want % x", i, p, want)
		}
	}
}

// P7.1
func TestKindsThatThereAreNot(t *testing.T) {
	for k := range 256 {
		if k >= int(api.FBeat) && k <= int(api.FDown) {
			continue
		}
		refused(t, "an unknown kind", api.Frame{Kind: byte(k)}, api.ErrForm)
		refused(t, "an unknown kind", api.Frame{Kind: byte(k), ID: view(1, 0)}, api.ErrForm)
		for _, rest := range []string{"", "00", "00 00 00", "00 00 00 00 00", "00 01 00", "00 01 00 00", "00 01 00 00 00 00"} {
			unread(t, "an unknown kind", sealed(append([]byte{byte(k)}, unhex(t, rest)...)), api.ErrForm)
		}
	}
}

// P7.1: what a kind doesn't name is zero.
func TestWhatIsNotNamed(t *testing.T) {
	fields := map[string]func(*api.Frame){
		"ID":     func(f *api.Frame) { f.ID = view(1, 0) },
		"ID.P":   func(f *api.Frame) { f.ID = view(0, 1) },
		"Set":    func(f *api.Frame) { f.Set = 1 << 15 },
		"Cur":    func(f *api.Frame) { f.Cur = view(1, 0) },
		"Prom":   func(f *api.Frame) { f.Prom = view(1, 0) },
		"States": func(f *api.Frame) { f.States = []api.State{{}} },
		"Base":   func(f *api.Frame) { f.Base = 1 },
		"Msgs":   func(f *api.Frame) { f.Msgs = [][]byte{nil} },
		"Items":  func(f *api.Frame) { f.Items = []api.Item{{}} },
		"Ack":    func(f *api.Frame) { f.Ack = 1 << 63 },
		"Safe":   func(f *api.Frame) { f.Safe = 1 },
	}
	named := map[byte]string{
		api.FBeat:    "Cur Prom",
		api.FPropose: "ID Set",
		api.FAccept:  "ID States",
		api.FRefuse:  "ID Prom",
		api.FCommit:  "ID Set States",
		api.FUp:      "ID Base Msgs Ack",
		api.FDown:    "ID Base Items Ack Safe",
	}
	for _, f := range slices.Concat(full(), bare()) {
		for name, set := range fields {
			g := f
			set(&g)
			if slices.Contains(strings.Fields(named[f.Kind]), name) {
				encode(t, g)
			} else {
				refused(t, name+" of the kind "+string('0'+rune(f.Kind)), g, api.ErrForm)
			}
		}
	}
}

// wrongViews: numbers of views that aren't right.
func wrongViews() []api.ViewID {
	return []api.ViewID{view(0, 1), view(0, 15), view(0, -1), view(1, -1), view(1, 16), view(maxU, 16), view(1, 256), view(1, math.MaxInt), view(1, math.MinInt)}
}

// P7.1
func TestWrongNumbers(t *testing.T) {
	for _, f := range slices.Concat(full(), bare()) {
		for _, i := range []int{-1, api.MaxNodes, 255, 256, 257, math.MaxInt, math.MinInt} {
			g := f
			g.From = i
			refused(t, "From", g, api.ErrForm)
		}
		for _, v := range wrongViews() {
			g := f
			g.ID = v
			refused(t, "ID", g, api.ErrForm)
			g = f
			g.Cur = v
			refused(t, "Cur", g, api.ErrForm)
			g = f
			g.Prom = v
			refused(t, "Prom", g, api.ErrForm)
		}
		if f.Kind != api.FBeat {
			f.ID = api.ViewID{}
			refused(t, "an ID of no view", f, api.ErrForm)
		}
	}
}

// wrongStates: states that aren't right, or have too many items.
func wrongStates() []api.State {
	id := view(1, 0)
	l := []api.State{
		{Floor: 1}, {Items: items(1)}, {V: id, Floor: -1}, {V: id, Floor: maxFloor + 1}, {V: id, Floor: math.MaxInt}, {V: id, Floor: math.MinInt},
		{V: id, Items: items(frame.Most + 1)},
	}
	for _, v := range wrongViews() {
		l = append(l, api.State{V: v})
	}
	for _, i := range []int{-1, api.MaxNodes, 256, math.MaxInt, math.MinInt} {
		l = append(l, api.State{V: id, Items: []api.Item{item(0, "a"), item(i, "b"), item(1, "c")}})
	}
	return l
}

// P7.1
func TestWrongLists(t *testing.T) {
	id := view(1, 0)
	for i, s := range wrongStates() {
		refused(t, "a wrong state", api.Frame{Kind: api.FAccept, ID: id, States: []api.State{s}}, api.ErrForm)
		refused(t, "a wrong state", api.Frame{Kind: api.FCommit, ID: id, States: []api.State{s}}, api.ErrForm)
		l := states(5, api.State{})
		l[i%5] = s
		refused(t, "a wrong state", api.Frame{Kind: api.FCommit, ID: id, States: l}, api.ErrForm)
	}
	for _, n := range []int{0, 2, 3, frame.Most, frame.Most + 1} {
		refused(t, "states of FAccept", api.Frame{Kind: api.FAccept, ID: id, States: states(n, api.State{V: id})}, api.ErrForm)
	}
	for _, i := range []int{-1, api.MaxNodes, 256, math.MaxInt, math.MinInt} {
		for at := range 3 {
			l := items(3)
			l[at].From = i
			refused(t, "an item of nobody", api.Frame{Kind: api.FDown, ID: id, Items: l}, api.ErrForm)
		}
	}
	refused(t, "too many states", api.Frame{Kind: api.FCommit, ID: id, States: states(frame.Most+1, api.State{})}, api.ErrForm)
	refused(t, "too many messages", api.Frame{Kind: api.FUp, ID: id, Msgs: make([][]byte, frame.Most+1)}, api.ErrForm)
	refused(t, "too many items", api.Frame{Kind: api.FDown, ID: id, Items: items(frame.Most + 1)}, api.ErrForm)
}

// grown: the frame with a message that gives it so many bytes in all.
func grown(t *testing.T, f api.Frame, message *[]byte, size int) api.Frame {
	t.Helper()
	*message = nil
	*message = bytes.Repeat([]byte("m"), size-len(encode(t, f))-2) // how many it has takes three bytes instead of one
	return f
}

// P7.1
func TestBytesAtTheLimit(t *testing.T) {
	id := view(1, 0)
	for _, kind := range []byte{api.FAccept, api.FCommit, api.FUp, api.FDown} {
		for _, more := range []int{-1, 0, 1, 2, 3, 4, 5, 6, 100} {
			f := api.Frame{Kind: kind, ID: id}
			last := &[]byte{}
			switch kind {
			case api.FUp:
				f.Msgs = [][]byte{[]byte("ab"), nil}
				last = &f.Msgs[1]
			case api.FDown:
				f.Items = []api.Item{item(1, "ab"), item(2, "")}
				last = &f.Items[1].M
			default:
				f.States = []api.State{{V: id, Items: []api.Item{item(1, "ab"), item(2, "")}}}
				last = &f.States[0].Items[1].M
			}
			f = grown(t, f, last, api.MaxBytes+more)
			if n := len(model(f)) + sumSize; n != api.MaxBytes+more {
				t.Fatalf("the frame has %d bytes", n)
			}
			if more > 0 {
				refused(t, "too long", f, api.ErrLong)
				unread(t, "too long", sealed(model(f)), api.ErrLong)
				continue
			}
			p := encode(t, f)
			if g, e := frame.Decode(p); len(p) != api.MaxBytes+more || e != api.OK || !same(f, g) {
				t.Errorf("kind %d, %d bytes: Decode: %d, or another frame", kind, len(p), e)
			}
		}
	}
}

// P7.1: many small parts, too, are too long together.
func TestManyPartsAtTheLimit(t *testing.T) {
	id := view(1, 0)
	most := api.State{V: id, Items: items(frame.Most)}
	size := len(encode(t, api.Frame{Kind: api.FAccept, ID: id, States: []api.State{most}}))
	for _, n := range []int{120, 140, 4000} {
		f := api.Frame{Kind: api.FCommit, ID: id, States: states(n, most)}
		if n*size < api.MaxBytes {
			if p := encode(t, f); !bytes.Equal(p, sealed(model(f))) {
				t.Errorf("%d states: other bytes", n)
			}
		} else {
			refused(t, "many states", f, api.ErrLong)
		}
	}
}

// P7.1: a frame that is both wrong and too long is wrong.
func TestWrongGoesAheadOfLong(t *testing.T) {
	long := make([]byte, api.MaxBytes)
	id := view(1, 0)
	for _, f := range []api.Frame{
		{Kind: api.FUp, ID: id, Msgs: [][]byte{long}, Safe: 1},
		{Kind: api.FUp, Msgs: [][]byte{long}},
		{Kind: api.FDown, ID: id, Items: []api.Item{{M: long}, {From: 16}}},
		{Kind: api.FAccept, ID: id, States: []api.State{{V: id, Items: []api.Item{{M: long}}}, {}}},
		{Kind: api.FCommit, ID: id, States: []api.State{{V: id, Items: []api.Item{{M: long}}}, {Floor: 1}}},
		{Kind: 8, ID: id, Msgs: [][]byte{long}},
	} {
		refused(t, "wrong and long", f, api.ErrForm)
	}
	refused(t, "long", api.Frame{Kind: api.FUp, ID: id, Msgs: [][]byte{long}}, api.ErrLong)
}

// often: so many items, all with the same message of so many bytes.
func often(n, size int) []api.Item {
	m := make([]byte, size)
	l := items(n)
	for i := range l {
		l[i].M = m
	}
	return l
}

// P1: a frame may name one long message very often; that ends, without room for all of it.
func TestOneMessageVeryOften(t *testing.T) {
	id := view(1, 0)
	long := often(frame.Most, 1<<24)
	refused(t, "very long", api.Frame{Kind: api.FCommit, ID: id, States: states(frame.Most, api.State{V: id, Items: long})}, api.ErrLong)
	refused(t, "very long", api.Frame{Kind: api.FUp, ID: id, Msgs: slices.Repeat([][]byte{long[0].M}, frame.Most)}, api.ErrLong)
	f := api.Frame{Kind: api.FDown, ID: id, Items: often(frame.Most, 1<<16)}
	var before, behind runtime.MemStats
	runtime.ReadMemStats(&before)
	refused(t, "very long", f, api.ErrLong)
	runtime.ReadMemStats(&behind)
	if used := behind.TotalAlloc - before.TotalAlloc; used > 32*api.MaxBytes {
		t.Errorf("Encode took room for %d bytes", used)
	}
}

// P7.1
func TestDecodeErrorsInTheirOrder(t *testing.T) {
	good := encode(t, full()[6])
	unread(t, "nothing", nil, api.ErrForm)
	unread(t, "too few bytes for a sum", []byte{1, 2, 3}, api.ErrForm)
	unread(t, "a sum of nothing", sealed(nil), api.ErrForm)
	unread(t, "a wrong sum of nothing", []byte{1, 0, 0, 0}, api.ErrSum)
	unread(t, "too long, and a wrong sum", make([]byte, api.MaxBytes+1), api.ErrLong)
	unread(t, "too long, and no frame", sealed(make([]byte, api.MaxBytes+1-sumSize)), api.ErrLong)
	unread(t, "a wrong sum at the limit", append([]byte{1}, make([]byte, api.MaxBytes-1)...), api.ErrSum)
	unread(t, "no frame at the limit", sealed(make([]byte, api.MaxBytes-sumSize)), api.ErrForm)
	unread(t, "no frame, and a wrong sum", []byte{9, 9, 9, 9, 9}, api.ErrSum)
	unread(t, "right", good, api.OK)
}

// P7.1: what is spoilt isn't read.
func TestSpoiltBytes(t *testing.T) {
	for _, f := range full() {
		p := encode(t, f)
		for i := range 8 * len(p) {
			p[i/8] ^= 1 << (i % 8)
			unread(t, "a turned bit", p, api.ErrSum)
			p[i/8] ^= 1 << (i % 8)
		}
		for n := range p {
			want := api.ErrSum
			if n < sumSize {
				want = api.ErrForm
			}
			unread(t, "a beginning", p[:n], want)
		}
	}
}

// P7.1: neither less nor more than a frame.
func TestSealedBeginningsAndMore(t *testing.T) {
	for _, f := range slices.Concat(full(), bare()) {
		p := model(f)
		for n := range p {
			unread(t, "a sealed beginning", sealed(p[:n]), api.ErrForm)
		}
		for _, more := range [][]byte{{0}, {1}, {0x80}, {0, 0, 0, 0}, p, sealed(p)} {
			unread(t, "a frame and more", sealed(slices.Concat(p, more)), api.ErrForm)
		}
	}
}

// P7.1
func TestDecodeWrongBytes(t *testing.T) {
	for _, s := range []string{
		"81 00 01 00 00 00 00",                                  // Kind in two bytes
		"01 10 00 00 00 00",                                     // From 16
		"01 ff 00 00 00 00",                                     // From 255
		"01 81 00 00 00 00 00",                                  // From in two bytes
		"01 01 00 01 00 00",                                     // Cur (0, 1)
		"01 01 01 10 00 00",                                     // Cur (1, 16)
		"01 01 00 00 00 0f",                                     // Prom (0, 15)
		"01 01 80 00 00 00 00",                                  // a number that isn't the shortest
		"02 02 00 00 05",                                        // ID of no view
		"02 02 00 01 05",                                        // ID (0, 1)
		"02 02 01 10 05",                                        // ID (1, 16)
		"02 02 01 00 80 80 04",                                  // Set 65536
		"02 02 01 00 85 00",                                     // Set that isn't the shortest
		"02 02 01 00 ff ff ff ff ff ff 7f",                      // a Set of far too many
		"03 03 01 00 00",                                        // no state
		"03 03 01 00 02 00 00 00 00 00 00 00 00",                // two states
		"03 03 01 00 01 00 00 01 00",                            // a state of no view with a Floor
		"03 03 01 00 01 00 00 00 01 00 00",                      // a state of no view with an item
		"03 03 01 00 01 00 01 00 00",                            // a state of (0, 1)
		"03 03 01 00 01 01 00 81 80 80 80 04 00",                // Floor 2^30 + 1
		"03 03 01 00 01 01 00 ff ff ff ff ff ff ff ff 7f 00",    // Floor 2^63 - 1
		"03 03 01 00 01 01 00 ff ff ff ff ff ff ff ff ff 01 00", // Floor 2^64 - 1
		"03 03 01 00 01 01 00 00 01 10 00",                      // an item of the node 16
		"03 03 01 00 01 01 00 00 02 01 00",                      // two items, of which one is there
		"04 04 01 00 00 01",                                     // Prom (0, 1)
		"04 04 00 00 01 00",                                     // ID of no view
		"05 05 01 00 01 01",                                     // a state that isn't there
		"05 05 01 00 01 81 00 00 00 00 00",                      // how many, not the shortest
		"06 06 01 00 00 00 01",                                  // a message that isn't there
		"06 06 01 00 00 00 01 02 61",                            // a message that is too short
		"06 06 01 00 00 00 00 00",                               // something behind it
		"06 06 01 00 00 00 ff ff ff ff ff ff ff ff ff 01",       // far too many messages
		"06 06 01 00 00 00 01 ff ff ff ff ff ff ff ff ff 01 61", // a message of far too many bytes
		"07 07 01 00 00 00 00 01 10 00",                         // an item of the node 16
		"07 07 01 00 00 00 00 01 81 00 00",                      // an item's node in two bytes
		"07 07 01 00 00 00 00 01",                               // an item that isn't there
		"07 07 00 00 00 00 00 00",                               // ID of no view
	} {
		unread(t, s, sealed(unhex(t, s)), api.ErrForm)
	}
}

// P7.1: lists of one part too many aren't read, though all parts are there.
func TestDecodeTooManyParts(t *testing.T) {
	id := view(1, 0)
	for _, more := range []int{0, 1, 2} {
		n := frame.Most + more
		for _, f := range []api.Frame{
			{Kind: api.FAccept, ID: id, States: []api.State{{V: id, Items: items(n)}}},
			{Kind: api.FCommit, ID: id, States: states(n, api.State{})},
			{Kind: api.FCommit, ID: id, States: []api.State{{}, {V: id, Items: items(n)}}},
			{Kind: api.FUp, ID: id, Msgs: make([][]byte, n)},
			{Kind: api.FDown, ID: id, Items: items(n)},
		} {
			want := api.OK
			if more > 0 {
				want = api.ErrForm
			}
			unread(t, "a long list", sealed(model(f)), want)
		}
	}
}

// some: a number that is often small, and sometimes any.
func some(r *rand.Rand) uint64 {
	return r.Uint64() >> r.Intn(64)
}

func someView(r *rand.Rand) api.ViewID {
	if r.Intn(4) == 0 {
		return api.ViewID{}
	}
	return view(max(1, some(r)), r.Intn(16))
}

func someBytes(r *rand.Rand) []byte {
	p := make([]byte, r.Intn(5)*r.Intn(50))
	r.Read(p)
	return p
}

func someItems(r *rand.Rand) []api.Item {
	l := items(r.Intn(5))
	for i := range l {
		l[i] = api.Item{From: r.Intn(16), M: someBytes(r)}
	}
	return l
}

func someState(r *rand.Rand) api.State {
	s := api.State{V: someView(r)}
	if s.V.N > 0 {
		s.Floor, s.Items = r.Intn(maxFloor+1)>>r.Intn(31), someItems(r)
	}
	return s
}

// someFrame: any frame that is right.
func someFrame(r *rand.Rand) api.Frame {
	f := api.Frame{Kind: byte(1 + r.Intn(7)), From: r.Intn(16)}
	if f.Kind == api.FBeat {
		f.Cur, f.Prom = someView(r), someView(r)
		return f
	}
	f.ID = view(max(1, some(r)), r.Intn(16))
	switch f.Kind {
	case api.FPropose:
		f.Set = uint16(some(r))
	case api.FAccept:
		f.States = []api.State{someState(r)}
	case api.FRefuse:
		f.Prom = someView(r)
	case api.FCommit:
		f.Set = uint16(some(r))
		for range r.Intn(5) {
			f.States = append(f.States, someState(r))
		}
	case api.FUp:
		f.Base, f.Ack = some(r), some(r)
		for range r.Intn(5) {
			f.Msgs = append(f.Msgs, someBytes(r))
		}
	case api.FDown:
		f.Base, f.Ack, f.Safe, f.Items = some(r), some(r), some(r), someItems(r)
	}
	return f
}

// P7.1
func TestFramesByTheModel(t *testing.T) {
	r := rand.New(rand.NewSource(7))
	for range 20000 {
		f := someFrame(r)
		p := encode(t, f)
		if want := sealed(model(f)); !bytes.Equal(p, want) {
			t.Fatalf("Encode(%v) = % x, want % x", f, p, want)
		}
		if g, e := frame.Decode(p); e != api.OK || !same(f, g) {
			t.Fatalf("Decode(% x) = %v, %d, want %v", p, g, e, f)
		}
	}
}

// P7.1: whatever is read is what Encode makes the same bytes of; all else is wrong.
func TestDecodeOfAnyBytes(t *testing.T) {
	r := rand.New(rand.NewSource(77))
	right := 0
	for range 200000 {
		p := model(someFrame(r))
		for range 1 + r.Intn(3) {
			at := r.Intn(len(p))
			switch r.Intn(4) {
			case 0:
				p[at] = byte(some(r))
			case 1:
				p[at] ^= 0x80
			case 2:
				p = slices.Delete(p, at, at+1)
			default:
				p = slices.Insert(p, at, byte(some(r)))
			}
			if len(p) == 0 {
				break
			}
		}
		b := sealed(p)
		f, e := frame.Decode(b)
		if e != api.OK {
			if e != api.ErrForm || !reflect.DeepEqual(f, api.Frame{}) {
				t.Fatalf("Decode(% x) = %v, %d", b, f, e)
			}
			continue
		}
		right++
		if q, e := frame.Encode(f); e != api.OK || !bytes.Equal(q, b) {
			t.Fatalf("Decode(% x) = %v, of which Encode makes % x, %d", b, f, q, e)
		}
	}
	if right == 0 {
		t.Errorf("no bytes were read")
	}
}

// scrub: writes over some bytes, and over their spare room.
func scrub(p []byte) {
	p = p[:cap(p)]
	for i := range p {
		p[i] = 0xee
	}
}

func scrubItems(l []api.Item) {
	l = l[:cap(l)]
	for i := range l {
		scrub(l[i].M)
		l[i] = item(14, "scrubbed")
	}
}

func scrubFrame(f api.Frame) {
	scrubItems(f.Items)
	for i, m := range f.Msgs[:cap(f.Msgs)] {
		scrub(m)
		f.Msgs[:cap(f.Msgs)][i] = []byte("scrubbed")
	}
	for i, s := range f.States[:cap(f.States)] {
		scrubItems(s.Items)
		f.States[:cap(f.States)][i] = api.State{V: view(9, 9), Floor: 9}
	}
}

// roomy: the frame in memory of its own, all lists with spare room.
func roomy(f api.Frame) api.Frame {
	message := func(m []byte) []byte { return append(m, "spare"...)[:len(m)] }
	list := func(l []api.Item) []api.Item {
		l = append(slices.Clone(l), item(5, "spare"))
		for i := range l {
			l[i].M = message(slices.Clone(l[i].M))
		}
		return l[:len(l)-1]
	}
	f.Items = list(f.Items)
	f.Msgs = append(slices.Clone(f.Msgs), []byte("spare"))
	for i := range f.Msgs {
		f.Msgs[i] = message(slices.Clone(f.Msgs[i]))
	}
	f.Msgs = f.Msgs[:len(f.Msgs)-1]
	f.States = append(slices.Clone(f.States), api.State{Floor: 5})
	for i := range f.States {
		f.States[i].Items = list(f.States[i].Items)
	}
	f.States = f.States[:len(f.States)-1]
	return f
}

// whole: the frame with the spare room of all its lists as a part of them.
func whole(f api.Frame) api.Frame {
	list := func(l []api.Item) []api.Item {
		l = slices.Clone(l[:cap(l)])
		for i := range l {
			l[i].M = l[i].M[:cap(l[i].M)]
		}
		return l
	}
	f.Items = list(f.Items)
	f.Msgs = slices.Clone(f.Msgs[:cap(f.Msgs)])
	for i := range f.Msgs {
		f.Msgs[i] = f.Msgs[i][:cap(f.Msgs[i])]
	}
	f.States = slices.Clone(f.States[:cap(f.States)])
	for i := range f.States {
		f.States[i].Items = list(f.States[i].Items)
	}
	return f
}

// The rule of memory, at Encode.
func TestEncodeAnswersNewMemory(t *testing.T) {
	for _, f := range full() {
		given := roomy(f)
		want := encode(t, f)
		first, second := encode(t, given), encode(t, given)
		scrub(first)
		if !bytes.Equal(second, want) {
			t.Errorf("kind %d: two answers share memory", f.Kind)
		}
		if !same(whole(given), whole(roomy(f))) {
			t.Errorf("kind %d: what was handed in has changed", f.Kind)
		}
		scrubFrame(given)
		if !bytes.Equal(second, want) {
			t.Errorf("kind %d: the answer shares memory with what was handed in", f.Kind)
		}
	}
}

// The rule of memory, at Decode.
func TestDecodeAnswersNewMemory(t *testing.T) {
	for _, f := range full() {
		want := encode(t, f)
		given := append(bytes.Clone(want), "spare"...)
		first, _ := frame.Decode(given[:len(want)])
		second, _ := frame.Decode(given[:len(want)])
		scrubFrame(first)
		if !same(second, f) {
			t.Errorf("kind %d: two answers share memory", f.Kind)
		}
		if !bytes.Equal(given, append(bytes.Clone(want), "spare"...)) {
			t.Errorf("kind %d: what was handed in has changed", f.Kind)
		}
		scrub(given)
		if !same(second, f) {
			t.Errorf("kind %d: the answer shares memory with what was handed in", f.Kind)
		}
	}
}

// Lists of one answer share no memory: to write behind one of them, or over it, leaves the others.
func TestListsOfOneAnswer(t *testing.T) {
	for _, f := range full() {
		g, _ := frame.Decode(encode(t, f))
		for i := range g.Msgs {
			scrub(g.Msgs[i])
			g.Msgs[i] = f.Msgs[i]
		}
		for i := range g.Items {
			scrub(g.Items[i].M)
			g.Items[i].M = f.Items[i].M
		}
		for i := range g.States {
			l := g.States[i].Items
			for j := range l {
				scrub(l[j].M)
				l[j].M = f.States[i].Items[j].M
			}
			rest := l[len(l):cap(l)]
			for j := range rest {
				rest[j] = item(14, "scrubbed")
			}
		}
		if !same(f, g) {
			t.Errorf("kind %d: lists of one answer share memory", f.Kind)
		}
	}
}

// P2
func TestSameAnswers(t *testing.T) {
	r := rand.New(rand.NewSource(2))
	for range 2000 {
		f := someFrame(r)
		p := encode(t, f)
		frame.Encode(someFrame(r))
		frame.Decode(p[1:])
		if q := encode(t, f); !bytes.Equal(p, q) {
			t.Fatalf("Encode(%v) = % x, and then % x", f, p, q)
		}
	}
}
