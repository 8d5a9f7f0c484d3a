package ident_test

import (
	"bytes"
	"encoding/hex"
	"math"
	"slices"
	"strings"
	"testing"

	"folkmoot/api"
	"folkmoot/code"
	"folkmoot/ident"
)

// noNodes: numbers beside those of nodes; by some of them a shift of 16, 32 or 64 bits comes round to a node.
var noNodes = []int{-1, -2, -16, api.MaxNodes, api.MaxNodes + 1, 31, 32, 33, 63, 64, 65, 1 << 16, 1 << 32, math.MaxInt, math.MinInt, math.MinInt + 1}

// P4.1: each set, held against the list of its bits as they are written in base 2.
func TestSets(t *testing.T) {
	for s := range 1 << 16 {
		var nodes []int
		for i, rest := 0, s; rest > 0; i, rest = i+1, rest/2 {
			if rest%2 == 1 {
				nodes = append(nodes, i)
			}
		}
		set := uint16(s)
		if l := ident.List(set); !slices.Equal(l, nodes) {
			t.Fatalf("List(%d) = %v, want %v", s, l, nodes)
		}
		if n := ident.Count(set); n != len(nodes) {
			t.Fatalf("Count(%d) = %d", s, n)
		}
		least := -1
		if len(nodes) > 0 {
			least = nodes[0]
		}
		if n := ident.Least(set); n != least {
			t.Fatalf("Least(%d) = %d, want %d", s, n, least)
		}
		for i, bit := 0, 1; i < api.MaxNodes; i, bit = i+1, bit*2 {
			has := slices.Contains(nodes, i)
			with, without := s, s
			if has {
				without -= bit
			} else {
				with += bit
			}
			if ident.Has(set, i) != has || ident.With(set, i) != uint16(with) || ident.Without(set, i) != uint16(without) {
				t.Fatalf("of %d, %d: Has %t, With %d, Without %d", s, i, ident.Has(set, i), ident.With(set, i), ident.Without(set, i))
			}
		}
	}
}

// P4.1
func TestSetsWithoutSuchANode(t *testing.T) {
	for _, s := range []uint16{0, 1, 2, 0x5555, 0xaaaa, 0x8000, 0xffff} {
		for _, i := range noNodes {
			if ident.Has(s, i) || ident.With(s, i) != s || ident.Without(s, i) != s {
				t.Errorf("of %d, %d: Has %t, With %d, Without %d", s, i, ident.Has(s, i), ident.With(s, i), ident.Without(s, i))
			}
		}
	}
}

// The rule 'Memory' at P4.1.
func TestListAnswersNewMemory(t *testing.T) {
	first, second := ident.List(0x8421), ident.List(0x8421)
	for i := range first[:cap(first)] {
		first[:cap(first)][i] = 99
	}
	if !slices.Equal(second, []int{0, 5, 10, 15}) || !slices.Equal(ident.List(0x8421), second) {
		t.Errorf("List = %v", second)
	}
}

// P4.1
func TestMost(t *testing.T) {
	for _, c := range []struct {
		s    uint16
		n    int
		want bool
	}{
		{3, 3, true}, {3, 4, false}, {0, 1, false}, {1, 1, true}, {1, 2, false}, {3, 2, true},
		{0x1ff, 16, true}, {0x00ff, 16, false}, {0xff80, 16, true}, {0xff00, 16, false}, {0x00ff, 15, true}, {0x007f, 15, false},
		{0xffff, 16, true}, {0xffff, 1, true}, {0x8000, 1, true}, {0, 16, false},
		{0xffff, 0, false}, {0xffff, -1, false}, {0, 0, false}, {0, -1, false}, {1, -5, false},
		{0xffff, 17, false}, {0xffff, 31, false}, {0xffff, math.MaxInt, false}, {0xffff, math.MinInt, false}, {0, math.MinInt, false},
	} {
		if ident.Most(c.s, c.n) != c.want {
			t.Errorf("Most(%d, %d) = %t", c.s, c.n, !c.want)
		}
	}
	for k := range api.MaxNodes + 1 {
		s := uint16(1<<k - 1)
		for n := 1; n <= api.MaxNodes; n++ {
			if ident.Most(s, n) != (k > n-k) {
				t.Errorf("Most of %d nodes, of %d: %t", k, n, ident.Most(s, n))
			}
		}
	}
}

// rising: views' numbers, each less than the next one.
var rising = []api.ViewID{
	{N: 0, P: math.MinInt}, {N: 0, P: -1}, {N: 0, P: 0}, {N: 0, P: 1}, {N: 0, P: math.MaxInt},
	{N: 1, P: math.MinInt}, {N: 1, P: 0}, {N: 1, P: 2}, {N: 1, P: 15},
	{N: 2, P: 0}, {N: 2, P: 15}, {N: 300, P: 3},
	{N: math.MaxInt64, P: 1}, {N: math.MaxInt64 + 1, P: 0},
	{N: math.MaxUint64, P: -1}, {N: math.MaxUint64, P: 0}, {N: math.MaxUint64, P: 15}, {N: math.MaxUint64, P: math.MaxInt},
}

// P4.2
func TestCompare(t *testing.T) {
	for i, a := range rising {
		for k, b := range rising {
			want := 0
			if i < k {
				want = -1
			} else if i > k {
				want = 1
			}
			if c := ident.Compare(a, b); c != want {
				t.Errorf("Compare(%v, %v) = %d, want %d", a, b, c, want)
			}
			if ident.Above(a, b) != (i > k) {
				t.Errorf("Above(%v, %v) = %t", a, b, i <= k)
			}
		}
	}
}

// rightOnes: views' numbers that are right: that of none, and some at the edges of how many bytes they have.
func rightOnes() []api.ViewID {
	l := []api.ViewID{{}}
	for _, n := range []uint64{1, 2, 127, 128, 300, 16383, 16384, math.MaxInt64, 1 << 63, math.MaxUint64} {
		for p := range api.MaxNodes {
			l = append(l, api.ViewID{N: n, P: p})
		}
	}
	return l
}

// wrongOnes: views' numbers that aren't right.
func wrongOnes() []api.ViewID {
	var l []api.ViewID
	for p := 1; p < api.MaxNodes; p++ {
		l = append(l, api.ViewID{P: p})
	}
	for _, p := range append([]int{255, 256, 257}, noNodes...) {
		l = append(l, api.ViewID{P: p}, api.ViewID{N: 1, P: p}, api.ViewID{N: math.MaxUint64, P: p})
	}
	return l
}

// P4.2
func TestForm(t *testing.T) {
	for _, v := range rightOnes() {
		if !ident.Form(v) {
			t.Errorf("%v is right", v)
		}
	}
	for _, v := range wrongOnes() {
		if ident.Form(v) {
			t.Errorf("%v isn't right", v)
		}
	}
}

func unhex(t *testing.T, s string) []byte {
	t.Helper()
	b, err := hex.DecodeString(strings.ReplaceAll(s, " ", ""))
	if err != nil {
		t.Fatal(err)
	}
	return b
}

// P4.2
func TestEncode(t *testing.T) {
	for _, c := range []struct {
		v    api.ViewID
		want string
	}{
		{api.ViewID{}, "00 00"}, {api.ViewID{N: 1}, "01 00"}, {api.ViewID{N: 1, P: 15}, "01 0f"},
		{api.ViewID{N: 127, P: 1}, "7f 01"}, {api.ViewID{N: 128, P: 1}, "80 01 01"}, {api.ViewID{N: 300, P: 2}, "ac 02 02"},
		{api.ViewID{N: math.MaxUint64, P: 3}, "ff ff ff ff ff ff ff ff ff 01 03"},
	} {
		if p, e := ident.Encode(nil, c.v); !bytes.Equal(p, unhex(t, c.want)) || e != api.OK {
			t.Errorf("Encode(none, %v) = %x, %d, want %s", c.v, p, e, c.want)
		}
		if p, e := ident.Encode([]byte("ab"), c.v); !bytes.Equal(p, unhex(t, "61 62"+c.want)) || e != api.OK {
			t.Errorf("Encode(ab, %v) = %x, %d", c.v, p, e)
		}
	}
	for _, v := range wrongOnes() {
		for _, p := range [][]byte{nil, {}, []byte("ab")} {
			if q, e := ident.Encode(p, v); len(q) != 0 || e != api.ErrForm {
				t.Errorf("Encode(%q, %v) = %x, %d", p, v, q, e)
			}
		}
	}
}

// The rule 'Memory' at P4.2: what is handed in stays as it is, its spare room too, and no two answers share anything.
func TestEncodeAnswersNewMemory(t *testing.T) {
	v := api.ViewID{N: 300, P: 2}
	whole := append([]byte("ab"), bytes.Repeat([]byte{0xee}, 20)...)
	before := bytes.Clone(whole)
	first, _ := ident.Encode(whole[:2], v)
	second, _ := ident.Encode(whole[:2], v)
	for i := range first[:cap(first)] {
		first[:cap(first)][i] = 0x55
	}
	if !bytes.Equal(second, unhex(t, "61 62 ac 02 02")) {
		t.Errorf("two answers share memory: %x", second)
	}
	ident.Encode(whole[:2], api.ViewID{P: 1})
	if !bytes.Equal(whole, before) {
		t.Errorf("%x became %x", before, whole)
	}
}

// P4.2: what was encoded is decoded, one behind the other.
func TestDecodeReadsWhatIsEncoded(t *testing.T) {
	var p []byte
	for _, v := range rightOnes() {
		q, e := ident.Encode(p, v)
		if e != api.OK {
			t.Fatalf("Encode(%v) = %d", v, e)
		}
		p = q
	}
	r := code.NewReader(append(p, 7))
	for _, v := range rightOnes() {
		if got, ok := ident.Decode(r); got != v || !ok || r.Bad() {
			t.Fatalf("Decode = %v, %t, want %v", got, ok, v)
		}
	}
	if r.Left() != 1 || r.Uint() != 7 {
		t.Error("more was read than was encoded")
	}
}

// P4.2: bytes that Encode doesn't write.
func TestDecodeWhereThereIsNone(t *testing.T) {
	for _, s := range []string{
		"", "00", "01", "80", "80 01", "ff ff ff ff ff ff ff ff ff 01",
		"00 01", "00 0f", "00 10", "00 ff", "00 80 00",
		"01 10", "01 11", "01 1f", "01 20", "01 40", "01 7f", "01 80", "01 8f", "01 ff",
		"01 80 00", "01 81 00", "01 8f 00", "01 80 01",
		"80 00 01", "81 00 00", "ff ff ff ff ff ff ff ff ff 02 01", "ff ff ff ff ff ff ff ff ff 81 00 01",
	} {
		r := code.NewReader(unhex(t, s))
		if v, ok := ident.Decode(r); v != (api.ViewID{}) || ok {
			t.Errorf("Decode of %s = %v, %t", s, v, ok)
		}
		// The document leaves it open whether that is a fault; here it always is one, so that nothing is half read.
		if !r.Bad() {
			t.Errorf("Decode of %s: no fault", s)
		}
	}
}

// P4.2: of all two bytes just those are decoded that encode the same number.
func TestDecodeOfTwoBytes(t *testing.T) {
	for b := range 1 << 16 {
		p := []byte{byte(b >> 8), byte(b)}
		v, ok := ident.Decode(code.NewReader(p))
		if !ok {
			v = api.ViewID{N: uint64(p[0]), P: int(p[1])}
		}
		q, e := ident.Encode(nil, v)
		if same := e == api.OK && bytes.Equal(p, q); same != ok {
			t.Fatalf("Decode of %x = %v, %t", p, v, ok)
		}
	}
}

// P1, P4.2
func TestDecodeOfNilAndBad(t *testing.T) {
	if v, ok := ident.Decode(nil); v != (api.ViewID{}) || ok {
		t.Errorf("Decode(nil) = %v, %t", v, ok)
	}
	r := code.NewReader([]byte{0x80, 0x00, 1, 2})
	r.Uint()
	if v, ok := ident.Decode(r); v != (api.ViewID{}) || ok || !r.Bad() {
		t.Errorf("Decode behind a fault = %v, %t", v, ok)
	}
}
