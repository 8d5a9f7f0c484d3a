package label_test

import (
	"bytes"
	"encoding/hex"
	"math"
	"math/rand"
	"slices"
	"strings"
	"testing"

	"folkmoot/api"
	"folkmoot/code"
	"folkmoot/ident"
	"folkmoot/label"
)

func of(n uint64, p int, seq uint64, whose int) api.Label {
	return api.Label{V: api.ViewID{N: n, P: p}, Seq: seq, P: whose}
}

// rising: labels, right and wrong, each less than the next one.
var rising = []api.Label{
	of(0, 0, 0, math.MinInt), of(0, 0, 0, -1), of(0, 0, 0, 0), of(0, 0, 0, 1), of(0, 0, 1, 0),
	of(0, 1, 0, 0), of(0, 1, math.MaxUint64, math.MaxInt),
	of(1, -1, 7, 7), of(1, 0, 0, 15), of(1, 0, 1, 0), of(1, 0, 1, 1), of(1, 0, 1, 15), of(1, 0, 2, 0), of(1, 0, 300, 3),
	of(1, 0, math.MaxInt64, 0), of(1, 0, math.MaxInt64+1, 0), of(1, 0, math.MaxUint64, 0), of(1, 0, math.MaxUint64, math.MaxInt),
	of(1, 1, 0, 0), of(1, 1, 1, 0), of(1, 15, 1, 0),
	of(2, 0, 1, 0), of(2, 0, 1, 1), of(2, 15, 9, 9),
	of(math.MaxInt64, 0, 1, 0), of(1<<63, 0, 1, 0), of(math.MaxUint64, 15, math.MaxUint64, 15),
}

// P5.1
func TestCompare(t *testing.T) {
	for i, a := range rising {
		for k, b := range rising {
			want := 0
			if i < k {
				want = -1
			} else if i > k {
				want = 1
			}
			if c := label.Compare(a, b); c != want {
				t.Errorf("Compare(%v, %v) = %d, want %d", a, b, c, want)
			}
		}
	}
}

// rightOnes: labels that are right, some at the edges of how many bytes they have.
func rightOnes() []api.Label {
	var l []api.Label
	edges := []uint64{1, 2, 127, 128, 300, 16383, 16384, math.MaxInt64, 1 << 63, math.MaxUint64}
	for _, n := range edges {
		for _, seq := range edges {
			for whose := range api.MaxNodes {
				l = append(l, of(n, 0, seq, whose), of(n, whose, seq, 0), of(n, api.MaxNodes-1, seq, whose))
			}
		}
	}
	return l
}

// wrongOnes: labels that aren't right, each by one thing alone.
func wrongOnes() []api.Label {
	l := []api.Label{{}, of(0, 0, 1, 0), of(0, 1, 1, 0), of(1, 0, 0, 0), of(1, 15, 0, 15), of(math.MaxUint64, 0, 0, 1)}
	for _, p := range []int{-1, -16, api.MaxNodes, api.MaxNodes + 1, 127, 128, 255, 256, 257, 1 << 32, math.MaxInt, math.MinInt} {
		l = append(l, of(1, p, 1, 0), of(1, 0, 1, p), of(math.MaxUint64, p, 1, 0), of(1, 0, math.MaxUint64, p))
	}
	return l
}

// P5.1
func TestForm(t *testing.T) {
	for _, l := range rightOnes() {
		if !label.Form(l) {
			t.Errorf("%v is right", l)
		}
	}
	for _, l := range wrongOnes() {
		if label.Form(l) {
			t.Errorf("%v isn't right", l)
		}
	}
}

// named: labels that rise by their letters.
func named(s string) []api.Label {
	var l []api.Label
	for _, x := range []byte(s) {
		l = append(l, of(1+uint64(x-'a')/4, 0, 1+uint64(x-'a')%4/2, int(x-'a')%2))
	}
	return l
}

// P5.1, the document's example and the edges.
func TestSortBehindTwice(t *testing.T) {
	for _, c := range []struct{ in, want string }{
		{"", ""}, {"a", "a"}, {"aa", "a"}, {"ba", "ab"}, {"abab", "ab"}, {"zyxabc", "abcxyz"}, {"hgfedcba", "abcdefgh"}, {"aaaab", "ab"}, {"baaaa", "ab"},
	} {
		if l := label.Sort(named(c.in)); !slices.Equal(l, named(c.want)) {
			t.Errorf("Sort(%s) = %v", c.in, l)
		}
		if label.Twice(named(c.in)) != (len(c.in) > len(c.want)) {
			t.Errorf("Twice(%s) = %t", c.in, label.Twice(named(c.in)))
		}
	}
	for _, c := range []struct{ order, more, want string }{
		{"ba", "cadc", "bacd"}, {"", "", ""}, {"", "bab", "ab"}, {"ba", "", "ba"}, {"ba", "ab", "ba"}, {"dc", "ba", "dcab"},
		{"aba", "cb", "abac"}, {"z", "zzyzy", "zy"}, {"h", "gfedcba", "habcdefg"},
	} {
		if l := label.Behind(named(c.order), named(c.more)); !slices.Equal(l, named(c.want)) {
			t.Errorf("Behind(%s, %s) = %v, want %s", c.order, c.more, l, c.want)
		}
	}
}

// P5.1: labels that differ in one thing alone are not the same, right or wrong.
func TestLabelsOfOneDifference(t *testing.T) {
	if label.Twice(rising) || len(label.Sort(rising)) != len(rising) {
		t.Error("two of them were taken for one")
	}
	falling := slices.Clone(rising)
	slices.Reverse(falling)
	if l := label.Sort(falling); !slices.Equal(l, rising) {
		t.Errorf("Sort = %v", l)
	}
	for i := range rising {
		order := rising[i : i+1]
		want := append(slices.Clone(order), slices.Delete(slices.Clone(rising), i, i+1)...)
		if l := label.Behind(order, falling); !slices.Equal(l, want) {
			t.Errorf("Behind(%v, all) = %v", order, l)
		}
	}
}

func anyLabels(r *rand.Rand) []api.Label {
	l := make([]api.Label, r.Intn(12))
	for i := range l {
		l[i] = of(uint64(r.Intn(3)), r.Intn(2), uint64(r.Intn(3)), r.Intn(3)-1)
	}
	return l
}

// less: by the document's words, without Compare.
func less(a, b api.Label) bool {
	if a.V.N != b.V.N {
		return a.V.N < b.V.N
	}
	if a.V.P != b.V.P {
		return a.V.P < b.V.P
	}
	if a.Seq != b.Seq {
		return a.Seq < b.Seq
	}
	return a.P < b.P
}

// insert: x at its place in a rising list, if it isn't there.
func insert(l []api.Label, x api.Label) []api.Label {
	if slices.Contains(l, x) {
		return l
	}
	at := 0
	for at < len(l) && less(l[at], x) {
		at++
	}
	return slices.Insert(l, at, x)
}

// P5.1: held against a slow model.
func TestListsByAModel(t *testing.T) {
	r := rand.New(rand.NewSource(5))
	for range 20000 {
		order, more := anyLabels(r), anyLabels(r)
		var sorted, rest []api.Label
		for _, x := range more {
			sorted = insert(sorted, x)
			if !slices.Contains(order, x) {
				rest = insert(rest, x)
			}
		}
		if l := label.Sort(more); !slices.Equal(l, sorted) {
			t.Fatalf("Sort(%v) = %v", more, l)
		}
		if l := label.Behind(order, more); !slices.Equal(l, append(slices.Clone(order), rest...)) {
			t.Fatalf("Behind(%v, %v) = %v", order, more, l)
		}
		if label.Twice(more) != (len(sorted) < len(more)) {
			t.Fatalf("Twice(%v) = %t", more, label.Twice(more))
		}
	}
}

// P1: long lists end, too.
func TestLongLists(t *testing.T) {
	const n = 200000
	order, more := make([]api.Label, n), make([]api.Label, n)
	for i := range n {
		order[i] = of(1, 0, uint64(2*(n-i)), 0)
		more[i] = of(1, 0, uint64(n-i), 0)
	}
	l := label.Behind(order, more)
	if len(l) != n+n/2 || l[n] != of(1, 0, 1, 0) || l[len(l)-1] != of(1, 0, n-1, 0) || label.Twice(l) || !label.Twice(append(l, l[n])) {
		t.Errorf("Behind has %d", len(l))
	}
}

func scrub(l []api.Label) {
	l = l[:cap(l)]
	for i := range l {
		l[i] = of(99, 9, 99, 9)
	}
}

// withRoom: the labels, with labels in the room behind them.
func withRoom(l []api.Label) []api.Label {
	n := len(l)
	l = append(slices.Clone(l), named("qrst")...)
	return l[:n]
}

// The rule 'Memory' at P5.1: arguments stay as they are, their spare room too, and no two answers share anything.
func TestListsAnswerNewMemory(t *testing.T) {
	for _, c := range []struct{ order, more string }{{"ba", "cadc"}, {"ba", ""}, {"", "cadc"}, {"abc", "abc"}, {"", ""}, {"a", "a"}} {
		order, more := withRoom(named(c.order)), withRoom(named(c.more))
		orderAll, moreAll := slices.Clone(order[:cap(order)]), slices.Clone(more[:cap(more)])
		sorted, behind := label.Sort(more), label.Behind(order, more)
		wantSorted, wantBehind := slices.Clone(sorted), slices.Clone(behind)
		scrub(label.Sort(more))
		scrub(label.Behind(order, more))
		label.Twice(order)
		if !slices.Equal(sorted, wantSorted) || !slices.Equal(behind, wantBehind) {
			t.Errorf("%v: answers share memory", c)
		}
		scrub(sorted)
		scrub(behind)
		if !slices.Equal(order[:cap(order)], orderAll) || !slices.Equal(more[:cap(more)], moreAll) {
			t.Errorf("%v: an argument was changed", c)
		}
	}
}

func unhex(t *testing.T, s string) []byte {
	t.Helper()
	b, err := hex.DecodeString(strings.ReplaceAll(s, " ", ""))
	if err != nil {
		t.Fatal(err)
	}
	return b
}

// P5.2
func TestEncode(t *testing.T) {
	for _, c := range []struct {
		l    api.Label
		want string
	}{
		{of(1, 0, 1, 0), "01 00 01 00"}, {of(1, 2, 3, 4), "01 02 03 04"}, {of(127, 15, 127, 15), "7f 0f 7f 0f"},
		{of(300, 1, 128, 2), "ac 02 01 80 01 02"},
		{of(math.MaxUint64, 15, math.MaxUint64, 14), "ff ff ff ff ff ff ff ff ff 01 0f ff ff ff ff ff ff ff ff ff 01 0e"},
	} {
		if p, e := label.Encode(nil, c.l); !bytes.Equal(p, unhex(t, c.want)) || e != api.OK {
			t.Errorf("Encode(none, %v) = %x, %d, want %s", c.l, p, e, c.want)
		}
		if p, e := label.Encode([]byte("ab"), c.l); !bytes.Equal(p, unhex(t, "61 62"+c.want)) || e != api.OK {
			t.Errorf("Encode(ab, %v) = %x, %d", c.l, p, e)
		}
	}
	for _, l := range wrongOnes() {
		for _, p := range [][]byte{nil, {}, []byte("ab")} {
			if q, e := label.Encode(p, l); len(q) != 0 || e != api.ErrForm {
				t.Errorf("Encode(%q, %v) = %x, %d", p, l, q, e)
			}
		}
	}
}

// P5.2, by the words of the document: p, ident.Encode, code.Uint, a byte.
func TestEncodeByItsParts(t *testing.T) {
	for _, l := range rightOnes() {
		p := []byte{9, 8}
		want, _ := ident.Encode(p, l.V)
		want = append(code.Uint(want, l.Seq), byte(l.P))
		if q, e := label.Encode(p, l); !bytes.Equal(q, want) || e != api.OK {
			t.Fatalf("Encode(%v) = %x, %d, want %x", l, q, e, want)
		}
	}
}

// The rule 'Memory' at P5.2.
func TestEncodeAnswersNewMemory(t *testing.T) {
	l := of(300, 1, 128, 2)
	whole := append([]byte("ab"), bytes.Repeat([]byte{0xee}, 40)...)
	before := bytes.Clone(whole)
	first, _ := label.Encode(whole[:2], l)
	second, _ := label.Encode(whole[:2], l)
	for i := range first[:cap(first)] {
		first[:cap(first)][i] = 0x55
	}
	if !bytes.Equal(second, unhex(t, "61 62 ac 02 01 80 01 02")) {
		t.Errorf("two answers share memory: %x", second)
	}
	label.Encode(whole[:2], api.Label{})
	if !bytes.Equal(whole, before) {
		t.Errorf("%x became %x", before, whole)
	}
}

// P5.2: what was encoded is decoded, one behind the other.
func TestDecodeReadsWhatIsEncoded(t *testing.T) {
	var p []byte
	for _, l := range rightOnes() {
		q, e := label.Encode(p, l)
		if e != api.OK {
			t.Fatalf("Encode(%v) = %d", l, e)
		}
		p = q
	}
	r := code.NewReader(append(p, 7))
	for _, l := range rightOnes() {
		if got, ok := label.Decode(r); got != l || !ok || r.Bad() {
			t.Fatalf("Decode = %v, %t, want %v", got, ok, l)
		}
	}
	if r.Left() != 1 || r.Uint() != 7 {
		t.Error("more was read than was encoded")
	}
}

// P5.2: bytes that Encode doesn't write.
func TestDecodeWhereThereIsNone(t *testing.T) {
	for _, s := range []string{
		"", "01", "01 00", "01 00 01", "80", "01 00 80", "01 00 80 01",
		"00 00 01 00", "00 00 00 00", "00 01 01 00", "01 00 00 00", "01 00 00 01", "01 10 01 00", "01 00 01 10", "01 00 01 7f",
		"01 00 01 80", "01 00 01 ff", "01 00 01 80 00", "01 00 01 8f 00", "01 00 80 00 01", "01 00 81 00 01", "81 00 00 01 00", "01 80 00 01 00",
		"01 00 ff ff ff ff ff ff ff ff ff 02 00", "ff ff ff ff ff ff ff ff ff 02 00 01 00",
	} {
		r := code.NewReader(unhex(t, s))
		if l, ok := label.Decode(r); l != (api.Label{}) || ok {
			t.Errorf("Decode of %s = %v, %t", s, l, ok)
		}
		// The document leaves it open whether that is a fault; here it always is one, so that nothing is half read.
		if !r.Bad() {
			t.Errorf("Decode of %s: no fault", s)
		}
	}
	r := code.NewReader(unhex(t, "00 00 01 00 05 05 05 05 05"))
	if _, ok := label.Decode(r); ok || !r.Bad() || r.Left() != 0 {
		t.Error("behind bytes that aren't a label others were left to read")
	}
}

// P5.2: of many four bytes just those are decoded that encode the same label.
func TestDecodeOfFourBytes(t *testing.T) {
	some := []byte{0, 1, 2, 14, 15, 16, 17, 0x7f, 0x80, 0x81, 0x8f, 0xff}
	for i := range len(some) * len(some) * len(some) * len(some) {
		n := len(some)
		p := []byte{some[i%n], some[i/n%n], some[i/n/n%n], some[i/n/n/n]}
		r := code.NewReader(p)
		l, ok := label.Decode(r)
		if !ok || r.Left() > 0 {
			l = of(uint64(p[0]), int(p[1]), uint64(p[2]), int(p[3]))
		}
		q, e := label.Encode(nil, l)
		if same := e == api.OK && bytes.Equal(p, q); same != ok {
			t.Fatalf("Decode of %x = %v, %t", p, l, ok)
		}
	}
}

// P1, P5.2
func TestDecodeOfNilAndBad(t *testing.T) {
	if l, ok := label.Decode(nil); l != (api.Label{}) || ok {
		t.Errorf("Decode(nil) = %v, %t", l, ok)
	}
	r := code.NewReader([]byte{0x80, 0x00, 1, 0, 1, 0})
	r.Uint()
	if l, ok := label.Decode(r); l != (api.Label{}) || ok || !r.Bad() {
		t.Errorf("Decode behind a fault = %v, %t", l, ok)
	}
}
