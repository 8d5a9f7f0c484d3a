package moot_test

import (
	"fmt"
	"testing"

	"folkmoot/api"
	"folkmoot/frame"
	"folkmoot/moot"
)

// config: so many nodes, that beat at each tick, with room for two messages that wait for a view.
func config(n int) api.Config {
	return api.Config{Nodes: n, Beat: 1, Miss: 3, Window: 2, Ring: 4, Queue: 2}
}

func mootOf(t *testing.T, c api.Config) *moot.Moot {
	t.Helper()
	m, e := moot.New(c)
	if m == nil || e != api.OK {
		t.Fatalf("New(%v) = %v, %d", c, m, e)
	}
	return m
}

// same: are both the same, as far as a text tells?
func same(t *testing.T, what string, got, want any) {
	t.Helper()
	if a, b := fmt.Sprint(got), fmt.Sprint(want); a != b {
		t.Fatalf("%s = %s, want %s", what, a, b)
	}
}

func step(kind byte, i, k int) api.Step {
	return api.Step{Kind: kind, I: i, K: k}
}

func saying(i int, m string) api.Step {
	return api.Step{Kind: api.SBcast, I: i, M: []byte(m)}
}

func calm(ticks int) api.Step {
	return step(api.SCalm, ticks, 0)
}

// do: the steps are done, all of them right.
func do(t *testing.T, m *moot.Moot, script ...api.Step) {
	t.Helper()
	for _, x := range script {
		does(t, m, x, api.OK)
	}
}

// does: what Do answers to a step.
func does(t *testing.T, m *moot.Moot, x api.Step, e api.Errno) {
	t.Helper()
	if got := m.Do(x); got != e {
		t.Fatalf("Do(%v) = %d, want %d", x, got, e)
	}
}

// refuses: a step that answers an error and changes nothing.
func refuses(t *testing.T, m *moot.Moot, x api.Step, e api.Errno) {
	t.Helper()
	was := all(m)
	does(t, m, x, e)
	same(t, fmt.Sprint("all behind ", x), all(m), was)
}

// all that can be asked of the nodes and of the net.
func all(m *moot.Moot) string {
	order, ok := m.Total()
	text := fmt.Sprint(order, ok, m.Views(), " lost ", m.Net().Lost())
	for i := 0; m.Node(i) != nil; i++ {
		n := m.Node(i)
		text += fmt.Sprint("\n", i, n.View(), n.Open(), n.Est(), n.Sent(), n.Got(), n.Trace(), n.Summary(), m.Net().Class(i))
	}
	for i := range m.Net().Len() {
		p, _ := m.Net().Peek(i)
		text += fmt.Sprint("\n", p)
	}
	return text
}

// underWay: the kinds of the frames that are under way, each From > To.
func underWay(t *testing.T, m *moot.Moot) string {
	t.Helper()
	names := []string{"", "beat", "propose", "accept", "refuse", "commit", "up", "down"}
	text := ""
	for i := range m.Net().Len() {
		p, _ := m.Net().Peek(i)
		f, e := frame.Decode(p.Bytes)
		if e != api.OK {
			t.Fatalf("Decode of %v = %d", p, e)
		}
		text += fmt.Sprintf("%s %d>%d, ", names[f.Kind], p.From, p.To)
	}
	return text
}

// got: what a node has delivered.
func got(m *moot.Moot, i int) string {
	text := ""
	for _, x := range m.Node(i).Got() {
		text += fmt.Sprintf("%d%s ", x.From, x.M)
	}
	return text
}
