package code_test

import (
	"bytes"
	"encoding/binary"
	"encoding/hex"
	"hash/crc32"
	"math"
	"strings"
	"testing"

	"folkmoot/api"
	"folkmoot/code"
)

func unhex(t *testing.T, s string) []byte {
	t.Helper()
	b, err := hex.DecodeString(strings.ReplaceAll(s, " ", ""))
	if err != nil {
		t.Fatal(err)
	}
	return b
}

// numbers: all edges of how many bytes a number has.
func numbers() []uint64 {
	l := []uint64{0, 1, 2, 300, math.MaxUint64}
	for b := range 64 {
		n := uint64(1) << b
		l = append(l, n-1, n, n+1)
	}
	return l
}

// spare: bytes with room behind them, of which the caller can see what stands there.
func spare(s string) (whole, p []byte) {
	whole = append([]byte(s), bytes.Repeat([]byte{0xee}, 40)...)
	return whole, whole[:len(s)]
}

// scrub writes over an answer, its spare room too.
func scrub(p []byte) {
	for i := range p[:cap(p)] {
		p[:cap(p)][i] ^= 0x55
	}
}

// P2.1
func TestUint(t *testing.T) {
	for _, c := range []struct {
		n    uint64
		want string
	}{
		{0, "00"}, {1, "01"}, {127, "7f"}, {128, "80 01"}, {300, "ac 02"},
		{16383, "ff 7f"}, {16384, "80 80 01"},
		{1 << 63, "80 80 80 80 80 80 80 80 80 01"},
		{math.MaxUint64, "ff ff ff ff ff ff ff ff ff 01"},
	} {
		if p := code.Uint(nil, c.n); !bytes.Equal(p, unhex(t, c.want)) {
			t.Errorf("Uint(none, %d) = %x, want %s", c.n, p, c.want)
		}
		if p := code.Uint([]byte("ab"), c.n); !bytes.Equal(p, append([]byte("ab"), unhex(t, c.want)...)) {
			t.Errorf("Uint(ab, %d) = %x", c.n, p)
		}
	}
	for _, n := range numbers() {
		if p := code.Uint([]byte{}, n); !bytes.Equal(p, binary.AppendUvarint(nil, n)) {
			t.Errorf("Uint(none, %d) = %x", n, p)
		}
	}
}

// P2.1
func TestBytes(t *testing.T) {
	long := bytes.Repeat([]byte{0xab}, 300)
	for _, c := range []struct {
		p, b []byte
		want string
	}{
		{nil, nil, "00"},
		{[]byte("x"), []byte{}, "78 00"},
		{nil, []byte("ab"), "02 61 62"},
		{[]byte("xy"), []byte("ab"), "78 79 02 61 62"},
		{nil, long[:127], "7f" + strings.Repeat("ab", 127)},
		{nil, long[:128], "80 01" + strings.Repeat("ab", 128)},
		{[]byte{0}, long, "00 ac 02" + strings.Repeat("ab", 300)},
	} {
		if q := code.Bytes(c.p, c.b); !bytes.Equal(q, unhex(t, c.want)) {
			t.Errorf("Bytes(%x, %x) = %x, want %s", c.p, c.b, q, c.want)
		}
	}
}

// The rule 'Memory' at P2.1, P2.3: an answer shares nothing with what was handed in, nor with another answer.
func TestWritersAnswerNewMemory(t *testing.T) {
	b := []byte("cd")
	for name, write := range map[string]func([]byte) []byte{
		"Uint":  func(p []byte) []byte { return code.Uint(p, 300) },
		"Bytes": func(p []byte) []byte { return code.Bytes(p, b) },
		"none":  func(p []byte) []byte { return code.Bytes(p, nil) },
		"Seal":  code.Seal,
	} {
		whole, p := spare("ab")
		before := bytes.Clone(whole)
		first := write(p)
		want := bytes.Clone(first)
		second := write(p)
		scrub(second)
		if !bytes.Equal(first, want) {
			t.Errorf("%s: two answers share memory", name)
		}
		scrub(first)
		if !bytes.Equal(whole, before) || string(b) != "cd" {
			t.Errorf("%s: %x became %x", name, before, whole)
		}
	}
}

// P2.1: what is written may stand in the room of what it is written behind.
func TestBytesOfItsOwnRoom(t *testing.T) {
	whole := []byte("abcd")
	if q := code.Bytes(whole[:1], whole[1:]); string(q) != "a\x03bcd" {
		t.Errorf("Bytes = %q", q)
	}
}

// P2.2
func TestReaderReadsWhatIsWritten(t *testing.T) {
	var p []byte
	for _, n := range numbers() {
		p = code.Bytes(code.Uint(p, n), binary.AppendUvarint(nil, n))
	}
	r := code.NewReader(p)
	left := len(p)
	for _, n := range numbers() {
		if r.Left() != left {
			t.Fatalf("at %d: Left %d, want %d", n, r.Left(), left)
		}
		own := binary.AppendUvarint(nil, n)
		if got := r.Uint(); got != n {
			t.Fatalf("Uint = %d, want %d", got, n)
		}
		if b := r.Bytes(10); !bytes.Equal(b, own) {
			t.Fatalf("Bytes = %x, want %x", b, own)
		}
		left -= 1 + 2*len(own)
	}
	if r.Left() != 0 || r.Bad() {
		t.Errorf("at the end: Left %d, Bad %t", r.Left(), r.Bad())
	}
}

// broken: behind a fault a reader reads nothing more, whatever is asked.
func broken(t *testing.T, what string, r *code.Reader) {
	t.Helper()
	for range 2 {
		if !r.Bad() || r.Left() != 0 {
			t.Errorf("%s: Bad %t, Left %d", what, r.Bad(), r.Left())
		}
		if n, i, b := r.Uint(), r.Int(9), r.Bytes(9); n != 0 || i != 0 || len(b) != 0 {
			t.Errorf("%s: then %d, %d, %x", what, n, i, b)
		}
		if i, b := r.Int(-1), r.Bytes(-1); i != 0 || len(b) != 0 {
			t.Errorf("%s: then, below 0: %d, %x", what, i, b)
		}
	}
}

// P2.2
func TestReaderNumbersThatUintDoesNotWrite(t *testing.T) {
	for _, s := range []string{
		"", "80", "ff", "80 80", "80 00", "ff 00", "ac 82 00",
		"ff ff ff ff ff ff ff ff ff",
		"ff ff ff ff ff ff ff ff ff 02",
		"80 80 80 80 80 80 80 80 80 00",
		"80 80 80 80 80 80 80 80 80 02",
		"ff ff ff ff ff ff ff ff ff 7f",
		"ff ff ff ff ff ff ff ff ff 81",
		"ff ff ff ff ff ff ff ff ff 81 00",
		"80 80 80 80 80 80 80 80 80 80 01",
		"ff ff ff ff ff ff ff ff ff ff ff ff",
	} {
		p := unhex(t, s)
		for _, read := range []func(*code.Reader) bool{
			func(r *code.Reader) bool { return r.Uint() == 0 },
			func(r *code.Reader) bool { return r.Int(math.MaxInt) == 0 },
			func(r *code.Reader) bool { return len(r.Bytes(math.MaxInt)) == 0 },
		} {
			r := code.NewReader(p)
			if r.Bad() || r.Left() != len(p) {
				t.Errorf("%s: a fault ahead of reading", s)
			}
			if !read(r) {
				t.Errorf("%s: something was read", s)
			}
			broken(t, s, r)
		}
		// And with something good behind what is cut off or wrong in itself.
		if len(p) > 1 && p[len(p)-1] < 0x80 {
			r := code.NewReader(append(p, 1, 2, 3))
			if r.Uint() != 0 {
				t.Errorf("%s 01 02 03: something was read", s)
			}
			broken(t, s+" 01 02 03", r)
		}
	}
}

// P2.2
func TestReaderInt(t *testing.T) {
	for _, c := range []struct {
		n    uint64
		most int
		ok   bool
	}{
		{0, 0, true}, {1, 0, false}, {0, -1, false}, {5, -1, false}, {5, math.MinInt, false},
		{5, 5, true}, {6, 5, false}, {4, 5, true}, {math.MaxInt, math.MaxInt, true},
		{math.MaxInt + 1, math.MaxInt, false}, {math.MaxUint64, math.MaxInt, false}, {math.MaxUint64, -1, false},
	} {
		r := code.NewReader(code.Uint(code.Uint(nil, c.n), 7))
		got := r.Int(c.most)
		if !c.ok {
			if got != 0 {
				t.Errorf("Int(%d) of %d = %d", c.most, c.n, got)
			}
			broken(t, "Int", r)
			continue
		}
		if uint64(got) != c.n || r.Bad() || r.Uint() != 7 {
			t.Errorf("Int(%d) of %d = %d, Bad %t", c.most, c.n, got, r.Bad())
		}
	}
}

// P2.2
func TestReaderBytes(t *testing.T) {
	for _, c := range []struct {
		p    string
		most int
		want string
		left int
		ok   bool
	}{
		{"00", 0, "", 0, true}, {"00 05", 0, "", 1, true}, {"00", -1, "", 0, false},
		{"02 61 62", 2, "ab", 0, true}, {"02 61 62 63", 9, "ab", 1, true},
		{"02 61 62", 1, "", 0, false}, {"02 61", 2, "", 0, false}, {"02", 2, "", 0, false},
		{"01", math.MaxInt, "", 0, false},
		{"ff ff ff ff ff ff ff ff 7f 61", math.MaxInt, "", 0, false},
		{"ff ff ff ff ff ff ff ff ff 01 61", math.MaxInt, "", 0, false},
	} {
		r := code.NewReader(unhex(t, c.p))
		b := r.Bytes(c.most)
		if string(b) != c.want || r.Left() != c.left || r.Bad() == c.ok {
			t.Errorf("Bytes(%d) of %s = %q, Left %d, Bad %t", c.most, c.p, b, r.Left(), r.Bad())
		}
		if !c.ok {
			broken(t, c.p, r)
		}
	}
}

// The rule 'Memory' at P2.2: a reader keeps nothing of the caller's, and hands out nothing of its own.
func TestReaderMemory(t *testing.T) {
	p := code.Bytes(code.Bytes(nil, []byte("ab")), []byte("cd"))
	r := code.NewReader(p)
	scrub(p)
	first := r.Bytes(9)
	if string(first) != "ab" {
		t.Errorf("Bytes = %q", first)
	}
	scrub(first)
	if b := r.Bytes(9); string(b) != "cd" || r.Bad() {
		t.Errorf("Bytes = %q", b)
	}

	p = code.Bytes(nil, []byte("ab"))
	before := bytes.Clone(p)
	scrub(code.NewReader(p).Bytes(9))
	if !bytes.Equal(p, before) {
		t.Errorf("%x became %x", before, p)
	}
}

// P1 and the rule 'A nil object'.
func TestNilReader(t *testing.T) {
	broken(t, "nil", nil)
	r := code.NewReader(nil)
	if r == nil || r.Bad() || r.Left() != 0 {
		t.Error("a reader of nothing has no fault till it reads")
	}
}

// P2.3
func TestSum(t *testing.T) {
	if s := code.Sum([]byte("123456789")); s != 0xcbf43926 {
		t.Errorf("Sum = %x", s)
	}
	if s := code.Sum(nil); s != 0 {
		t.Errorf("Sum of nothing = %x", s)
	}
	var p []byte
	for i := range 600 {
		if s := code.Sum(p); s != crc32.ChecksumIEEE(p) {
			t.Fatalf("Sum of %d bytes = %x", len(p), s)
		}
		p = append(p, byte(i*i+i/7))
	}
}

// P2.3
func TestSeal(t *testing.T) {
	if p := code.Seal([]byte("123456789")); string(p) != "123456789\x26\x39\xf4\xcb" {
		t.Errorf("Seal = %x", p)
	}
	if p := code.Seal(nil); !bytes.Equal(p, make([]byte, 4)) {
		t.Errorf("Seal of nothing = %x", p)
	}
}

// P2.3
func TestOpen(t *testing.T) {
	for _, s := range []string{"", "a", "abcd", strings.Repeat("xyz", 500)} {
		if b, e := code.Open(code.Seal([]byte(s))); string(b) != s || e != api.OK {
			t.Errorf("Open of Seal(%q) = %q, %d", s, b, e)
		}
	}
	for _, p := range [][]byte{nil, {}, {0}, {0, 0}, {0, 0, 0}} {
		if b, e := code.Open(p); len(b) != 0 || e != api.ErrForm {
			t.Errorf("Open(%x) = %x, %d", p, b, e)
		}
	}
	for _, p := range [][]byte{{0, 0, 0, 1}, {1, 2, 3, 4}, []byte("123456789\xcb\xf4\x39\x26"), []byte("12345678\x26\x39\xf4\xcb")} {
		if b, e := code.Open(p); len(b) != 0 || e != api.ErrSum {
			t.Errorf("Open(%x) = %x, %d", p, b, e)
		}
	}
}

// P2.3: each turned bit, and each two of them, is found.
func TestOpenFindsTurnedBits(t *testing.T) {
	p := code.Seal([]byte("folkmoot"))
	for i := range 8 * len(p) {
		p[i/8] ^= 1 << (i % 8)
		for k := range i + 1 {
			p[k/8] ^= 1 << (k % 8)
			if b, e := code.Open(p); k < i && (len(b) != 0 || e != api.ErrSum) {
				t.Fatalf("bits %d, %d turned: %x, %d", i, k, b, e)
			}
			p[k/8] ^= 1 << (k % 8)
		}
		if _, e := code.Open(p); e != api.ErrSum {
			t.Fatalf("bit %d turned: %d", i, e)
		}
		p[i/8] ^= 1 << (i % 8)
	}
}

// The rule 'Memory' at P2.3.
func TestOpenAnswersNewMemory(t *testing.T) {
	p := code.Seal([]byte("abc"))
	before := bytes.Clone(p)
	first, _ := code.Open(p)
	second, _ := code.Open(p)
	scrub(first)
	if string(second) != "abc" || !bytes.Equal(p, before) {
		t.Errorf("Open: %q, %x", second, p)
	}
}

// P2: two readers, and two calls, that are told the same answer the same.
func TestSameAnswers(t *testing.T) {
	p := unhex(t, "05 02 61 62 80 00 01")
	a, b := code.NewReader(p), code.NewReader(append(make([]byte, 0, 99), p...))
	for range 5 {
		if a.Uint() != b.Uint() || !bytes.Equal(a.Bytes(9), b.Bytes(9)) || a.Left() != b.Left() || a.Bad() != b.Bad() {
			t.Fatal("the readers differ")
		}
	}
	_, q := spare("ab")
	if !bytes.Equal(code.Seal(q), code.Seal([]byte("ab"))) || !bytes.Equal(code.Uint(q, 300), code.Uint([]byte("ab"), 300)) {
		t.Error("the answer hangs on a capacity")
	}
}
