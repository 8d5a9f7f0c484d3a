package shell_test

import (
	"fmt"
	"strings"
	"testing"

	"folkmoot/api"
	"folkmoot/moot"
	"folkmoot/shell"
)

// same: are both the same, as far as a text tells?
func same(t *testing.T, what string, got, want any) {
	t.Helper()
	if a, b := fmt.Sprint(got), fmt.Sprint(want); a != b {
		t.Fatalf("%s = %q, want %q", what, a, b)
	}
}

func mootOf(t *testing.T, nodes int) *moot.Moot {
	t.Helper()
	m, e := moot.New(shell.Config(nodes))
	if e != api.OK {
		t.Fatalf("New = %d", e)
	}
	return m
}

// answers: to each line, its answer.
func answers(t *testing.T, m *moot.Moot, l ...[2]string) {
	t.Helper()
	for _, x := range l {
		same(t, "Line of "+x[0], shell.Line(m, x[0]), x[1])
	}
}

// runs: what Run answers to lines of so many nodes.
func runs(t *testing.T, nodes int, text string, want ...string) {
	t.Helper()
	l, e := shell.Run(nodes, text)
	if e != api.OK || len(l) != len(want) {
		t.Fatalf("Run(%d, %q) = %q, %d", nodes, text, l, e)
	}
	same(t, "Run of "+text, strings.Join(l, "|"), strings.Join(want, "|"))
}
