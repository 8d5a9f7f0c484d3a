package content_test

import (
	"bytes"
	"encoding/binary"
	"encoding/hex"
	"math"
	"math/rand"
	"reflect"
	"runtime"
	"slices"
	"strings"
	"testing"

	"folkmoot/api"
	"folkmoot/content"
)

func unhex(t *testing.T, s string) []byte {
	t.Helper()
	b, err := hex.DecodeString(strings.ReplaceAll(s, " ", ""))
	if err != nil {
		t.Fatal(err)
	}
	return b
}

func sameSummary(a, b api.Summary) bool {
	return same(a.Con, b.Con) && slices.Equal(a.Ord, b.Ord) && a.Next == b.Next && a.High == b.High
}

// labelModel and those below: the bytes as the document tells them, whether what they are of is right or not.
func labelModel(p []byte, l api.Label) []byte {
	p = append(binary.AppendUvarint(p, l.V.N), byte(l.V.P))
	return append(binary.AppendUvarint(p, l.Seq), byte(l.P))
}

func entryModel(p []byte, x api.Entry) []byte {
	p = binary.AppendUvarint(labelModel(p, x.L), uint64(len(x.M)))
	return append(p, x.M...)
}

func summaryModel(s api.Summary) []byte {
	p := binary.AppendUvarint([]byte{2}, uint64(len(s.Con)))
	for _, x := range s.Con {
		p = entryModel(p, x)
	}
	p = binary.AppendUvarint(p, uint64(len(s.Ord)))
	for _, l := range s.Ord {
		p = labelModel(p, l)
	}
	p = binary.AppendUvarint(p, uint64(s.Next))
	return append(binary.AppendUvarint(p, s.High.N), byte(s.High.P))
}

func one(t *testing.T, x api.Entry, want []byte) {
	t.Helper()
	if p, e := content.EncodeOne(x); !bytes.Equal(p, want) || e != api.OK {
		t.Errorf("EncodeOne(%v) = % x, %d, want % x", x, p, e, want)
	}
	k, y, s, e := content.Decode(want)
	if k != content.One || !sameEntry(y, x) || !reflect.DeepEqual(s, api.Summary{}) || e != api.OK {
		t.Errorf("Decode(% x) = %d, %v, %v, %d", want, k, y, s, e)
	}
}

func all(t *testing.T, s api.Summary, want []byte) {
	t.Helper()
	if p, e := content.EncodeAll(s); !bytes.Equal(p, want) || e != api.OK {
		t.Errorf("EncodeAll(%v) = % x, %d, want % x", s, p, e, want)
	}
	k, x, u, e := content.Decode(want)
	if k != content.All || !sameSummary(u, s) || !reflect.DeepEqual(x, api.Entry{}) || e != api.OK {
		t.Errorf("Decode(% x) = %d, %v, %v, %d", want, k, x, u, e)
	}
}

// none: Decode finds nothing, and tells nothing.
func none(t *testing.T, what string, b []byte) {
	t.Helper()
	k, x, s, e := content.Decode(b)
	if k != 0 || !reflect.DeepEqual(x, api.Entry{}) || !reflect.DeepEqual(s, api.Summary{}) || e != api.ErrForm {
		t.Errorf("%s: Decode(% x) = %d, %v, %v, %d", what, b, k, x, s, e)
	}
}

// P15.2
func TestKinds(t *testing.T) {
	if content.One != 1 || content.All != 2 {
		t.Errorf("One %d, All %d", content.One, content.All)
	}
}

// P15.2, the document's example and others.
func TestBytesOfOne(t *testing.T) {
	for _, c := range []struct {
		x    api.Entry
		want string
	}{
		{entry(of(1, 0, 1, 0), "a"), "01 01 00 01 00 01 61"},
		{entry(of(1, 0, 1, 0), ""), "01 01 00 01 00 00"},
		{api.Entry{L: of(1, 2, 3, 4)}, "01 01 02 03 04 00"},
		{entry(of(300, 15, 128, 14), "hi"), "01 ac 02 0f 80 01 0e 02 68 69"},
		{entry(of(math.MaxUint64, 1, math.MaxUint64, 15), "\x00"), "01 ff ff ff ff ff ff ff ff ff 01 01 ff ff ff ff ff ff ff ff ff 01 0f 01 00"},
		{entry(of(1, 0, 1, 0), strings.Repeat("m", api.MaxMsg)), "01 01 00 01 00 40" + strings.Repeat("6d", api.MaxMsg)},
	} {
		one(t, c.x, unhex(t, c.want))
	}
	for i, l := range edges() {
		x := entry(l, strings.Repeat("m", i%(api.MaxMsg+1)))
		one(t, x, entryModel([]byte{1}, x))
	}
}

// P15.2
func TestBytesOfAll(t *testing.T) {
	for _, c := range []struct {
		s    api.Summary
		want string
	}{
		{api.Summary{Next: 1}, "02 00 00 01 00 00"},
		{summary("", "", 1, view(300, 15)), "02 00 00 01 ac 02 0f"},
		{summary("ax", "", 1, view(1, 0)), "02 01 01 00 01 00 01 78 00 01 01 00"},
		{summary("", "a", 2, view(1, 0)), "02 00 01 01 00 01 00 02 01 00"},
		{summary("a bxy e", "ba", 3, view(2, 1)), "02 03 01 00 01 00 00 01 00 01 01 02 78 79 02 00 01 00 00 02 01 00 01 01 01 00 01 00 03 02 01"},
	} {
		all(t, c.s, unhex(t, c.want))
	}
	for _, s := range rightOnes() {
		all(t, s, summaryModel(s))
	}
}

// P15.2: what isn't right has no bytes, and the bytes that it would have aren't read.
func TestWhatIsNotRight(t *testing.T) {
	wrong := []api.Entry{{}, {L: named('a'), M: make([]byte, api.MaxMsg+1)}, {L: named('a'), M: make([]byte, api.MaxBytes)}}
	for _, l := range wrongLabels() {
		wrong = append(wrong, entry(l, "a"), api.Entry{L: l})
	}
	for _, x := range wrong {
		if p, e := content.EncodeOne(x); len(p) != 0 || e != api.ErrForm {
			t.Errorf("EncodeOne(%v) = % x, %d", x.L, p, e)
		}
		if int(byte(x.L.V.P)) == x.L.V.P && int(byte(x.L.P)) == x.L.P {
			none(t, "an entry that isn't right", entryModel([]byte{1}, x))
		}
	}
	for _, s := range wrongOnes() {
		if p, e := content.EncodeAll(s); len(p) != 0 || e != api.ErrForm {
			t.Errorf("EncodeAll(%v) = % x, %d", s, p, e)
		}
		p := summaryModel(s)
		if k, _, u, e := content.Decode(p); e == api.OK && (k != content.All || sameSummary(u, s)) {
			t.Errorf("Decode of %v, which isn't right", s)
		}
	}
}

// P15.2: neither less nor more.
func TestBeginningsAndMore(t *testing.T) {
	var l [][]byte
	for _, x := range entries("a bxy z123") {
		l = append(l, entryModel([]byte{1}, x))
	}
	for _, s := range rightOnes() {
		l = append(l, summaryModel(s))
	}
	for _, p := range l {
		for n := range min(len(p), 500) {
			none(t, "a beginning", p[:n])
			none(t, "a beginning", p[:len(p)-1-n])
		}
		for _, more := range []string{"\x00", "\x01", "\x80", "\x00\x00\x00\x00", string(p)} {
			none(t, "more", append(bytes.Clone(p), more...))
		}
	}
}

// P15.2
func TestDecodeWrongBytes(t *testing.T) {
	for _, s := range []string{
		"", "00", "01", "02", "03",
		"00 01 00 01 00 01 61",                                       // no kind
		"03 01 00 01 00 01 61",                                       // no kind
		"ff 01 00 01 00 01 61",                                       // no kind
		"81 00 01 00 01 00 01 61",                                    // the kind in two bytes
		"82 00 00 00 01 00 00",                                       // the kind in two bytes
		"01 00 00 01 00 01 61",                                       // a label of no view
		"01 00 01 01 00 01 61",                                       // a label of (0, 1)
		"01 01 10 01 00 01 61",                                       // a label of (1, 16)
		"01 01 00 00 00 01 61",                                       // Seq 0
		"01 01 00 01 10 01 61",                                       // of the node 16
		"01 81 00 00 01 00 01 61",                                    // N, not the shortest
		"01 01 80 00 01 00 01 61",                                    // the view's P in two bytes
		"01 01 00 81 00 00 01 61",                                    // Seq, not the shortest
		"01 01 00 01 80 00 01 61",                                    // P in two bytes
		"01 01 00 01 00 81 00 61",                                    // how many bytes, not the shortest
		"01 01 00 01 00 02 61",                                       // too few bytes
		"01 01 00 01 00 00 61",                                       // too many bytes
		"01 01 00 01 00 41" + strings.Repeat("6d", 65),               // one byte more than MaxMsg
		"01 01 00 01 00 ff ff ff ff ff ff ff ff 7f 61",               // far too many bytes
		"01 01 00 01 00 ff ff ff ff ff ff ff ff ff 01 61",            // far too many bytes
		"02 00 00 00 00 00",                                          // Next 0
		"02 00 00 02 00 00",                                          // Next 2, of an empty order
		"02 00 01 01 00 01 00 03 01 00",                              // Next 3, of one
		"02 00 00 ff ff ff ff ff ff ff ff 7f 00 00",                  // Next 2^63 - 1
		"02 00 00 ff ff ff ff ff ff ff ff ff 01 00 00",               // Next 2^64 - 1
		"02 00 00 81 00 00 00",                                       // Next, not the shortest
		"02 00 00 01 00 01",                                          // High (0, 1)
		"02 00 00 01 01 10",                                          // High (1, 16)
		"02 00 00 01 81 00 00",                                       // High, not the shortest
		"02 80 00 00 01 00 00",                                       // how many entries, not the shortest
		"02 00 80 00 01 00 00",                                       // how many labels, not the shortest
		"02 01 00 01 00 00",                                          // an entry that isn't there
		"02 00 01 01 00 00",                                          // a label that isn't there
		"02 01 01 00 01 00 41" + strings.Repeat("6d", 65) + "000100", // an entry of more than MaxMsg bytes, and 00
		"02 01 01 00 01 00 41" + strings.Repeat("6d", 65) + "00010000",
		"02 02 01 00 01 00 00 01 00 01 00 00 00 01 00 00", // an entry twice
		"02 02 01 00 01 01 00 01 00 01 00 00 00 01 00 00", // entries that fall
		"02 00 02 01 00 01 00 01 00 01 00 01 00 00",       // a label twice
		"02 01 00 00 01 00 00 00 01 00 00",                // an entry of no view
		"02 00 01 00 00 01 00 01 00 00",                   // a label of no view
		"02 00 01 01 00 00 00 01 00 00",                   // a label with Seq 0
		"02 ff ff ff ff ff ff ff ff 7f",                   // far too many entries
		"02 ff ff ff ff ff ff ff ff ff 01",                // far too many entries
		"02 00 ff ff ff ff ff ff ff ff 7f",                // far too many labels
		"02 ff ff ff ff 0f 01 00 01 00 00",                // far too many entries, of which one is there
	} {
		none(t, s, unhex(t, s))
	}
}

// again: what Encode makes of what Decode told; nothing: there was an error.
func again(b []byte) []byte {
	k, x, s, e := content.Decode(b)
	if e != api.OK {
		return nil
	}
	var p []byte
	if k == content.One {
		p, _ = content.EncodeOne(x)
	} else {
		p, _ = content.EncodeAll(s)
	}
	return p
}

// P15.2: what is decoded is that of which the bytes were made, whichever bits are turned.
func TestTurnedBits(t *testing.T) {
	var l [][]byte
	for _, x := range entries("a bxy z123") {
		l = append(l, entryModel([]byte{1}, x))
	}
	for _, s := range rightOnes() {
		if p := summaryModel(s); len(p) < 500 {
			l = append(l, p)
		}
	}
	read := 0
	for _, p := range l {
		for i := range 8 * len(p) {
			for k := range i + 1 {
				q := bytes.Clone(p)
				q[i/8] ^= 1 << (i % 8)
				q[k/8] ^= 1 << (k % 8)
				if b := again(q); b != nil {
					read++
					if !bytes.Equal(b, q) {
						t.Fatalf("Decode of % x, but that is % x", q, b)
					}
				}
			}
		}
	}
	if read < 1000 {
		t.Errorf("just %d were read", read)
	}
}

// P15.2: of all short bytes out of some just those are decoded that are made of something.
func TestAllShortBytes(t *testing.T) {
	some := []byte{0, 1, 2, 15, 16, 0x80, 0x81}
	numbers, nodes := []uint64{1, 2, 15, 16}, []int{0, 1, 2, 15}
	made := map[string]bool{string(summaryModel(api.Summary{Next: 1})): true}
	for _, n := range numbers {
		for _, p := range nodes {
			made[string(summaryModel(api.Summary{Next: 1, High: view(n, p)}))] = true
			for _, seq := range numbers {
				for _, whose := range nodes {
					made[string(entryModel([]byte{1}, entry(of(n, p, seq, whose), "")))] = true
				}
			}
		}
	}
	lists := [][]byte{{}}
	for range 6 {
		for _, p := range lists {
			if made[string(p)] != (again(p) != nil) {
				t.Fatalf("Decode(% x): % x", p, again(p))
			}
		}
		lists = longer(lists, some)
	}
	for _, p := range lists {
		if b := again(p); made[string(p)] != (b != nil) || b != nil && !bytes.Equal(b, p) {
			t.Fatalf("Decode(% x): % x", p, b)
		}
	}
}

// longer: each of the lists with each of the bytes behind it.
func longer(lists [][]byte, some []byte) [][]byte {
	var l [][]byte
	for _, p := range lists {
		for _, b := range some {
			l = append(l, append(bytes.Clone(p), b))
		}
	}
	return l
}

func someLabel(r *rand.Rand) api.Label {
	n := func() uint64 { return max(1, r.Uint64()>>r.Intn(64)) }
	return of(n(), r.Intn(16), n(), r.Intn(16))
}

// someSummary: any summary that is right.
func someSummary(r *rand.Rand) api.Summary {
	var s api.Summary
	for range r.Intn(6) {
		s.Con = content.Put(s.Con, entry(someLabel(r), strings.Repeat("x", r.Intn(api.MaxMsg+1))))
		s.Ord = append(s.Ord, someLabel(r))
	}
	s.Ord = s.Ord[:r.Intn(len(s.Ord)+1)]
	s.Next = 1 + r.Intn(len(s.Ord)+1)
	if r.Intn(4) > 0 {
		s.High = someLabel(r).V
	}
	return s
}

// P15.2
func TestAnySummaries(t *testing.T) {
	r := rand.New(rand.NewSource(15))
	for range 5000 {
		s := someSummary(r)
		if content.Right(s) {
			all(t, s, summaryModel(s))
		}
		x := entry(someLabel(r), strings.Repeat("y", r.Intn(api.MaxMsg+1)))
		one(t, x, entryModel([]byte{1}, x))
	}
}

// P1, P15.2: any bytes.
func TestAnyBytes(t *testing.T) {
	r := rand.New(rand.NewSource(2))
	for range 100000 {
		p := make([]byte, r.Intn(40))
		for i := range p {
			p[i] = byte(r.Intn(256) >> r.Intn(8))
		}
		if len(p) > 0 {
			p[0] = byte(r.Intn(4))
		}
		if b := again(p); b != nil && !bytes.Equal(b, p) {
			t.Fatalf("Decode of % x, but that is % x", p, b)
		}
	}
}

// P1: few bytes that tell of very many parts take neither time nor room for them.
func TestManyThatAreNotThere(t *testing.T) {
	var before, behind runtime.MemStats
	runtime.ReadMemStats(&before)
	for _, s := range []string{"02 ff ff ff ff 07", "02 ff ff ff ff ff ff ff ff 7f 01 00 01 00 00", "02 00 ff ff ff ff ff ff ff ff 7f 01 00 01 00"} {
		none(t, s, unhex(t, s))
	}
	runtime.ReadMemStats(&behind)
	if used := behind.TotalAlloc - before.TotalAlloc; used > api.MaxBytes {
		t.Errorf("Decode took room for %d bytes", used)
	}
}

// P1: long summaries end, too.
func TestLongSummary(t *testing.T) {
	const n = 100000
	s := api.Summary{Next: n / 2, High: view(1, 0)}
	for i := range n {
		s.Con = append(s.Con, entry(of(1, 0, uint64(i+1), 3), "message"))
		s.Ord = append(s.Ord, of(1, 0, uint64(n-i), 3))
	}
	p, e := content.EncodeAll(s)
	if e != api.OK || !bytes.Equal(p, summaryModel(s)) {
		t.Fatalf("EncodeAll = %d bytes, %d", len(p), e)
	}
	if k, _, u, e := content.Decode(p); k != content.All || e != api.OK || !sameSummary(s, u) {
		t.Errorf("Decode = %d, %d", k, e)
	}
	none(t, "more", append(p, 0))
}
