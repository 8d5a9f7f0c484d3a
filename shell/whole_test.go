package shell_test

import (
	"fmt"
	"testing"

	"folkmoot/api"
	"folkmoot/code"
	"folkmoot/ident"
	"folkmoot/judge"
	"folkmoot/label"
	"folkmoot/member"
	"folkmoot/moot"
	"folkmoot/net"
	"folkmoot/send"
	"folkmoot/shell"
)

// The document's ten examples of the whole, in their order.

func TestWholeSum(t *testing.T) {
	same(t, "Sum", fmt.Sprintf("%x", code.Sum([]byte("123456789"))), "cbf43926")
}

func TestWholeUint(t *testing.T) {
	same(t, "Uint", fmt.Sprintf("% x", code.Uint(nil, 300)), "ac 02")
}

func TestWholeList(t *testing.T) {
	same(t, "List", ident.List(5), []int{0, 2})
}

func TestWholeBehind(t *testing.T) {
	of := func(names string) []api.Label {
		var l []api.Label
		for _, c := range names {
			l = append(l, api.Label{V: api.ViewID{N: 1}, Seq: uint64(c)})
		}
		return l
	}
	same(t, "Behind", label.Behind(of("ba"), of("cadc")), of("bacd"))
}

func TestWholeClass(t *testing.T) {
	n, _ := net.New(3)
	n.Cut(0, 1)
	same(t, "Class", n.Class(2), 0)
	n.Cut(0, 2)
	same(t, "Class", n.Class(2), 6)
}

func TestWholeWindow(t *testing.T) {
	s, _ := send.New[string](3, 2)
	for _, x := range []string{"a", "b", "c"} {
		s.Put(x)
	}
	_, l := s.Window()
	same(t, "Window", l, []string{"a", "b"})
	same(t, "Ack", s.Ack(1), api.OK)
	_, l = s.Window()
	same(t, "Window", l, []string{"b", "c"})
}

func TestWholeProposal(t *testing.T) {
	m, _ := member.New(2, 0)
	l, in := m.Tick(3, api.State{})
	if len(l) != 1 || in != nil {
		t.Fatalf("Tick = %v, %v", l, in)
	}
	same(t, "the frame", l[0], member.Out{To: 1, F: api.Frame{Kind: api.FPropose, ID: api.ViewID{N: 1}, Set: 3}})
}

func TestWholeJudge(t *testing.T) {
	a := []byte("a")
	order, ok := judge.Total([][][]byte{{a, []byte("b")}}, [][]api.Item{{{From: 0, M: a}}, {}})
	same(t, "Total", fmt.Sprint(order, ok), fmt.Sprint([]api.Item{{From: 0, M: a}}, true))
}

func TestWholeMoot(t *testing.T) {
	m, _ := moot.New(shell.Config(3))
	same(t, "Do", m.Do(api.Step{Kind: api.SBcast, M: []byte("a")}), api.OK)
	same(t, "Do", m.Do(api.Step{Kind: api.SCalm, I: 40}), api.OK)
	for i := range 3 {
		same(t, "Got", m.Node(i).Got(), []api.Item{{From: 0, M: []byte("a")}})
	}
}

func TestWholeShell(t *testing.T) {
	runs(t, 1, "bcast 0 hi\ntick 0\ngot 0", "ok", "ok", "0:hi")
}
