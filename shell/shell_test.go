package shell_test

import (
	"fmt"
	"math"
	"strings"
	"testing"

	"folkmoot/api"
	"folkmoot/shell"
)

// P21.1
func TestConfig(t *testing.T) {
	for _, n := range []int{math.MinInt, -1, 0, 1, 5, api.MaxNodes, api.MaxNodes + 1, math.MaxInt} {
		same(t, "Config", shell.Config(n), api.Config{Nodes: n, Beat: 1, Miss: 3, Window: 4, Ring: 16, Queue: 16})
	}
}

// P21.2: the chapter's example.
func TestExample(t *testing.T) {
	runs(t, 1, "bcast 0 hi\ntick 0\ngot 0", "ok", "ok", "0:hi")
}

// P21.2: each word does its step.
func TestSteps(t *testing.T) {
	m := mootOf(t, 3)
	under := func(want int) {
		t.Helper()
		same(t, "under way", m.Net().Len(), want)
	}
	answers(t, m, [2]string{"tick 1", "ok"})
	under(2)
	answers(t, m, [2]string{"double 1", "ok"}, [2]string{"double 0", "ok"})
	under(4)
	answers(t, m, [2]string{"turn 3 9", "ok"}, [2]string{"turn 3 10", "ok"}, [2]string{"turn 3 11", "error 8"}, [2]string{"turn 3 999999", "error 1"})
	answers(t, m, [2]string{"drop 0", "ok"}, [2]string{"drop 3", "error 1"})
	under(3)
	answers(t, m, [2]string{"deliver 2", "error 5"}, [2]string{"deliver 2", "error 1"}, [2]string{"deliver 1", "ok"})
	under(1)
	same(t, "Est", m.Node(2).Est(), 6)
	answers(t, m, [2]string{"cut 1 2", "ok"}, [2]string{"cut 2 2", "error 1"}, [2]string{"cut 2 3", "error 1"}, [2]string{"deliver 0", "error 10"})
	under(0)
	same(t, "lost", m.Net().Lost(), 2)
	answers(t, m, [2]string{"join 2 1", "ok"}, [2]string{"join 0 0", "error 1"})
	same(t, "Class", m.Net().Class(0), 7)
	answers(t, m, [2]string{"calm 40", "ok"}, [2]string{"calm 1000", "ok"}, [2]string{"calm 1001", "error 1"}, [2]string{"tick 3", "error 1"})
	same(t, "the set", m.Node(0).View().Set, 7)
	answers(t, m, [2]string{"bcast 2 hi you", "ok"}, [2]string{"bcast 3 a", "error 1"}, [2]string{"bcast 2 ", "ok"}, [2]string{"calm 20", "ok"})
	same(t, "Sent", fmt.Sprintf("%q", m.Node(2).Sent()), `["hi you" ""]`)
	answers(t, m, [2]string{"got 0", "2:hi you 2:"}, [2]string{"bcast 0 b", "ok"}, [2]string{"calm 20", "ok"}, [2]string{"got 1", "2:hi you 2: 0:b"})
}

// P21.2: a node's view: none, one of its own, and one that another node has proposed.
func TestView(t *testing.T) {
	m := mootOf(t, 12)
	answers(t, m, [2]string{"view 0", "0.0"}, [2]string{"view 11", "0.0"}, [2]string{"tick 11", "ok"}, [2]string{"view 11", "1.11 11"})
	for i := range 11 {
		if i != 5 {
			answers(t, m, [2]string{fmt.Sprint("cut ", i, " 11"), "ok"}, [2]string{fmt.Sprint("cut 5 ", i), "ok"})
		}
	}
	answers(t, m, [2]string{"calm 20", "ok"}, [2]string{"view 5", "2.5 5 11"}, [2]string{"view 11", "2.5 5 11"}, [2]string{"view 10", "2.0 0 1 2 3 4 6 7 8 9 10"})
}

// P21.2: what was delivered, whatever bytes it has.
func TestGot(t *testing.T) {
	m := mootOf(t, 1)
	answers(t, m, [2]string{"got 0", ""}, [2]string{"bcast 0 a:b c", "ok"}, [2]string{"bcast 0 \xff\x00", "ok"}, [2]string{"bcast 0  ", "ok"}, [2]string{"got 0", ""},
		[2]string{"tick 0", "ok"}, [2]string{"got 0", "0:a:b c 0:\xff\x00 0: "})
}

// P21.2: questions about nodes that there aren't, and what is no question.
func TestWrongQuestions(t *testing.T) {
	m := mootOf(t, 3)
	for _, word := range []string{"view", "got"} {
		for _, i := range []string{"3", "4", "16", "17", "999999"} {
			answers(t, m, [2]string{word + " " + i, "error 1"})
		}
		for _, rest := range []string{"", " ", "0", " 00", " 01", " -1", " +1", " x", " 1000000", " 0 ", " 0 0", "  0", "s 0", "\t0", " 0\r"} {
			answers(t, m, [2]string{word + rest, "error 4"})
		}
		answers(t, m, [2]string{strings.ToUpper(word) + " 0", "error 4"}, [2]string{" " + word + " 0", "error 4"})
		long := word + " " + strings.Repeat("0", api.MaxLine)
		answers(t, m, [2]string{long[:api.MaxLine], "error 4"}, [2]string{long[:api.MaxLine+1], "error 2"})
	}
}

// P21.2, P7: Parse's errors, and else Do's.
func TestErrors(t *testing.T) {
	m := mootOf(t, 2)
	long := "bcast 0 " + strings.Repeat("x", api.MaxLine)
	answers(t, m,
		[2]string{"", "error 4"},
		[2]string{"x", "error 4"},
		[2]string{"tick 00", "error 4"},
		[2]string{long[:api.MaxLine+1], "error 2"},
		[2]string{long[:api.MaxLine], "error 2"}, // the message is too long
		[2]string{long[:8+api.MaxMsg+1], "error 2"},
		[2]string{long[:8+api.MaxMsg], "ok"},
		[2]string{"bcast 2 " + long[8:8+api.MaxMsg+1], "error 1"},
		[2]string{"bcast 2 x", "error 1"},
		[2]string{"deliver 0", "error 1"})
	for range 15 {
		answers(t, m, [2]string{"bcast 0 x", "ok"})
	}
	answers(t, m, [2]string{"bcast 0 x", "error 7"})
}

// P1: of no moot.
func TestNil(t *testing.T) {
	answers(t, nil, [2]string{"view 0", "error 1"}, [2]string{"got 0", "error 1"}, [2]string{"tick 0", "error 6"}, [2]string{"calm 5000", "error 6"}, [2]string{"x", "error 4"}, [2]string{"", "error 4"})
}

// P21.2: a new moot each time, each line one answer, the empty ones, too.
func TestRun(t *testing.T) {
	for range 2 {
		runs(t, 2, "view 0\ntick 0\nview 0", "0.0", "ok", "1.0 0")
	}
	runs(t, 1, "", "error 4")
	runs(t, 1, "\n", "error 4", "error 4")
	runs(t, 1, "view 0\n", "0.0", "error 4")
	runs(t, 1, "\nview 0", "error 4", "0.0")
	runs(t, 1, "view 0\r\nview 0", "error 4", "0.0")
	runs(t, 1, "tick 0\n\nview 0", "ok", "error 4", "1.0 0")
	runs(t, 3, "bcast 0 a\nbcast 2 b\ncalm 40\ngot 0\ngot 1\ngot 2\ngot 3\nview 1", "ok", "ok", "ok", "0:a 2:b", "0:a 2:b", "0:a 2:b", "error 1", "2.0 0 1 2")
	for _, n := range []int{math.MinInt, -1, 0, api.MaxNodes + 1, math.MaxInt} {
		if l, e := shell.Run(n, "view 0"); l != nil || e != api.ErrArg {
			t.Errorf("Run of %d = %q, %d", n, l, e)
		}
	}
	runs(t, api.MaxNodes, "calm 10\nview 15", "ok", "2.0 0 1 2 3 4 5 6 7 8 9 10 11 12 13 14 15")
}

// P21.2, P3: parted, and together again.
func TestParted(t *testing.T) {
	cut, join := "", ""
	for _, pair := range []string{"0 2", "0 3", "0 4", "1 2", "1 3", "1 4"} {
		cut += "cut " + pair + "\n"
		join += "join " + pair + "\n"
	}
	l, e := shell.Run(5, cut+"bcast 0 a\nbcast 4 b\ncalm 60\ngot 0\ngot 2\n"+join+"calm 60\ngot 0\ngot 2")
	if e != api.OK || len(l) != 20 {
		t.Fatalf("Run = %q, %d", l, e)
	}
	same(t, "parted", strings.Join(l[8:11], "|"), "ok||4:b")
	same(t, "together", strings.Join(l[18:], "|"), "4:b 0:a|4:b 0:a")
}
