package shell_test

import (
	"bytes"
	"fmt"
	"math"
	"math/rand"
	"strings"
	"testing"

	"folkmoot/api"
	"folkmoot/shell"
)

// lines and their steps.
type line struct {
	text string
	step api.Step
}

func rightLines() []line {
	all := make([]byte, 256)
	for i := range all {
		all[i] = byte(i)
	}
	long := strings.Repeat("x", api.MaxLine-len("bcast 999999 "))
	return []line{
		{"bcast 0 hi", api.Step{Kind: api.SBcast, M: []byte("hi")}},
		{"bcast 3 ", api.Step{Kind: api.SBcast, I: 3}},
		{"bcast 3  ", api.Step{Kind: api.SBcast, I: 3, M: []byte(" ")}},
		{"bcast 3  a  b ", api.Step{Kind: api.SBcast, I: 3, M: []byte(" a  b ")}},
		{"bcast 3 3", api.Step{Kind: api.SBcast, I: 3, M: []byte("3")}},
		{"bcast 3 tick 0", api.Step{Kind: api.SBcast, I: 3, M: []byte("tick 0")}},
		{"bcast 3 " + string(all[:128]), api.Step{Kind: api.SBcast, I: 3, M: all[:128]}},
		{"bcast 3 " + string(all[128:]), api.Step{Kind: api.SBcast, I: 3, M: all[128:]}},
		{"bcast 999999 " + long, api.Step{Kind: api.SBcast, I: 999999, M: []byte(long)}},
		{"tick 1", api.Step{Kind: api.STick, I: 1}},
		{"deliver 0", api.Step{Kind: api.SDeliver}},
		{"deliver 4095", api.Step{Kind: api.SDeliver, I: 4095}},
		{"drop 10", api.Step{Kind: api.SDrop, I: 10}},
		{"double 100000", api.Step{Kind: api.SDouble, I: 100000}},
		{"turn 2 17", api.Step{Kind: api.STurn, I: 2, K: 17}},
		{"turn 0 999999", api.Step{Kind: api.STurn, K: 999999}},
		{"cut 1 0", api.Step{Kind: api.SCut, I: 1}},
		{"join 15 16", api.Step{Kind: api.SJoin, I: 15, K: 16}},
		{"calm 0", api.Step{Kind: api.SCalm}},
		{"calm 999999", api.Step{Kind: api.SCalm, I: 999999}},
	}
}

func equal(a, b api.Step) bool {
	return a.Kind == b.Kind && a.I == b.I && a.K == b.K && bytes.Equal(a.M, b.M)
}

// P21.1: each step has a line, which tells it.
func TestParseAndWrite(t *testing.T) {
	for _, x := range rightLines() {
		if y, e := shell.Parse(x.text); e != api.OK || !equal(x.step, y) {
			t.Errorf("Parse(%q) = %v, %d", x.text, y, e)
		}
		if text, e := shell.Write(x.step); e != api.OK || text != x.text {
			t.Errorf("Write(%v) = %q, %d", x.step, text, e)
		}
	}
}

// P21.1
func TestParseRefuses(t *testing.T) {
	wrong := []string{
		"", " ", "x", "x 0", "0", "tick", "tick ", "tick  0", " tick 0", "tick 0 ", "tick 0 0", "tick 0\n", "tick 0\r", "tick\t0",
		"Tick 0", "TICK 0", "tic 0", "ticks 0", "ticktick 0", "tick0", "tick,0",
		"tick 00", "tick 01", "tick 000000", "tick 1000000", "tick 0999999", "tick 12345678901234567890",
		"tick -0", "tick -1", "tick +1", "tick 1.0", "tick 1e3", "tick 0x1", "tick 1_0", "tick a", "tick 1a", "tick a1", "tick \u0661", "tick \xff",
		"deliver", "deliver 0 0", "drop ", "drop 1 1", "double x", "double 1 ", "calm", "calm -1", "calm 1 1",
		"turn 0", "turn 0 ", "turn 0  0", "turn 0 0 ", "turn 0 0 0", "turn 0 00", "turn 00 0", "turn 0 -1", "turn 0 1000000", "turn 0 x", "turn  0",
		"cut 0", "cut 0 ", "cut 0 01", "cut a 0", "cut 0 a", "cut 0,1", "join 1", "join 1 2 3", "join 1 2 ",
		"bcast", "bcast ", "bcast 0", "bcast  0 a", "bcast a 0", "bcast 00 a", "bcast 1000000 a", "bcast -1 a", "bcast 0\ta", " bcast 0 a",
		"view 0", "got 0", "view", "got", "ok", "error 4",
		strings.Repeat("x", api.MaxLine), strings.Repeat(" ", api.MaxLine), "tick " + strings.Repeat("0", api.MaxLine-5),
	}
	for _, text := range wrong {
		if x, e := shell.Parse(text); e != api.ErrText || !equal(x, api.Step{}) {
			t.Errorf("Parse(%q) = %v, %d", text, x, e)
		}
	}
}

// P21.1: no other byte is a digit.
func TestDigits(t *testing.T) {
	for c := range 256 {
		for _, before := range []string{"", "1"} {
			text := before + string([]byte{byte(c)})
			want := api.ErrText
			if c >= '0' && c <= '9' {
				want = api.OK
			}
			x, e := shell.Parse("tick " + text)
			if e != want || e == api.OK && fmt.Sprint(x.I) != text {
				t.Errorf("Parse of %q = %v, %d", text, x, e)
			}
		}
	}
}

// P21.1: too long is what has more bytes than MaxLine, whatever they are.
func TestParseOfLongLines(t *testing.T) {
	for _, text := range []string{"bcast 0 ", "tick ", "", "turn 0 ", "\u00e9"} {
		for _, n := range []int{api.MaxLine + 1, api.MaxLine + 2, 1 << 16} {
			long := text + strings.Repeat("1", n-len(text))
			if x, e := shell.Parse(long); e != api.ErrLong || !equal(x, api.Step{}) {
				t.Errorf("Parse of %d bytes %q.. = %v, %d", n, text, x, e)
			}
		}
	}
}

// P21.1: steps that no line tells whole.
func TestWriteRefuses(t *testing.T) {
	wrong := []api.Step{
		{Kind: api.SBcast, M: make([]byte, api.MaxLine-len("bcast 0 ")+1)},
		{Kind: api.SBcast, I: 999999, M: make([]byte, api.MaxLine-len("bcast 999999 ")+1)},
		{Kind: api.SBcast, M: make([]byte, 1<<16)},
		{Kind: api.SBcast, K: 1, M: []byte("a")},
		{Kind: api.SBcast, I: -1, M: []byte("a")},
		{Kind: api.STick, M: []byte("a")},
		{Kind: api.STick, M: []byte{0}},
		{Kind: api.STick, K: 1},
		{Kind: api.STick, K: -1},
		{Kind: api.SDeliver, K: math.MinInt},
		{Kind: api.SCalm, I: 3, K: 3},
		{Kind: api.STurn, I: 1, K: 2, M: []byte("3")},
		{Kind: api.STurn, I: 1, K: -1},
		{Kind: api.STurn, I: 1, K: 1000000},
		{Kind: api.SCut, I: -1, K: 1},
		{Kind: api.SCut, I: math.MaxInt, K: 1},
		{Kind: api.SJoin, I: 1, K: math.MaxInt},
	}
	for kind := api.SBcast; kind <= api.SCalm; kind++ {
		for _, i := range []int{math.MinInt, -1, 1000000, 1 << 32, math.MaxInt} {
			wrong = append(wrong, api.Step{Kind: kind, I: i})
		}
	}
	for kind := int(api.SCalm) + 1; kind < 256; kind++ {
		wrong = append(wrong, api.Step{Kind: byte(kind)})
	}
	for _, x := range wrong {
		if text, e := shell.Write(x); e != api.ErrForm || text != "" {
			t.Errorf("Write(%v) = %q, %d", x, text, e)
		}
	}
}

// P21.1: whatever Parse reads Write writes in the same way, and whatever Write writes Parse reads.
func TestThereAndBack(t *testing.T) {
	r := rand.New(rand.NewSource(1))
	words := []string{"bcast", "tick", "deliver", "drop", "double", "turn", "cut", "join", "calm", "view", "0", "1", "00", "12", "999999", "1000000", "-1", "", "a", " "}
	read, written := 0, 0
	for range 100000 {
		l := make([]string, 1+r.Intn(4))
		for i := range l {
			l[i] = words[r.Intn(len(words))]
		}
		text := strings.Join(l, " ")
		if x, e := shell.Parse(text); e == api.OK {
			read++
			if back, e := shell.Write(x); e != api.OK || back != text {
				t.Fatalf("Parse(%q) = %v, which is %q, %d", text, x, back, e)
			}
		}
		x := api.Step{Kind: byte(r.Intn(11)), I: r.Intn(1000003) - 2, K: r.Intn(5) - 2, M: make([]byte, r.Intn(3)*r.Intn(110))}
		r.Read(x.M)
		if text, e := shell.Write(x); e == api.OK {
			written++
			if back, e := shell.Parse(text); e != api.OK || !equal(x, back) {
				t.Fatalf("Write(%v) = %q, which is %v, %d", x, text, back, e)
			}
		}
	}
	if read < 1500 || written < 5000 {
		t.Errorf("%d were read, %d written", read, written)
	}
}

// The rule 'Memory': what is handed in isn't changed, and what is answered isn't kept.
func TestMemory(t *testing.T) {
	room := []byte("hello, and more")
	text, _ := shell.Write(api.Step{Kind: api.SBcast, M: room[:5]})
	same(t, "what was handed in", string(room), "hello, and more")
	copy(room, "#####")
	same(t, "Write", text, "bcast 0 hello")
	a, _ := shell.Parse(text)
	b, _ := shell.Parse(text)
	copy(a.M[:cap(a.M)], bytes.Repeat([]byte("#"), cap(a.M)))
	same(t, "Parse", fmt.Sprintf("%s", b.M), "hello")
	same(t, "the line", text, "bcast 0 hello")
}
