package member_test

import (
	"fmt"
	"math/rand"
	"testing"

	"folkmoot/api"
	"folkmoot/cut"
	"folkmoot/ident"
	"folkmoot/member"
)

// words is the document's words taken plainly, one by one: all that a node has is kept as they name it.
type words struct {
	n, self  int
	cur      api.View
	prom     api.ViewID
	high     uint64
	proposal bool
	view     api.View
	accepted map[int]bool
	states   []api.State
	agreed   bool
	beatCur  map[int]api.ViewID
	beatProm map[int]api.ViewID
}

func wordsOf(n, self int) *words {
	return &words{n: n, self: self, beatCur: map[int]api.ViewID{}, beatProm: map[int]api.ViewID{}}
}

func (w *words) open() bool { return w.cur.ID.N != 0 && w.prom == w.cur.ID }

func (w *words) hears(n uint64) {
	if n > w.high {
		w.high = n
	}
}

// toldAbove: has one of a set told a Prom above a number?
func (w *words) toldAbove(set uint16, v api.ViewID) bool {
	for i := range w.n {
		if ident.Has(set, i) && ident.Compare(w.beatProm[i], v) == 1 {
			return true
		}
	}
	return false
}

func (w *words) allHaveAccepted() bool {
	for i := range w.n {
		if ident.Has(w.view.Set, i) && !w.accepted[i] {
			return false
		}
	}
	return true
}

// others: a frame to each other node of the proposal's set, rising.
func (w *words) others(f func(i int) (api.Frame, bool)) []member.Out {
	var l []member.Out
	for i := range w.n {
		if i == w.self || !ident.Has(w.view.Set, i) {
			continue
		}
		if x, ok := f(i); ok {
			l = append(l, to(i, x))
		}
	}
	return l
}

func (w *words) tick(est uint16, st api.State) ([]member.Out, *member.Install) {
	for i := range api.MaxNodes {
		if i >= w.n {
			est &^= 1 << i
		}
	}
	est |= 1 << w.self
	need := !w.open() || est != w.cur.Set || w.toldAbove(est, w.cur.ID)
	stands := w.proposal && !w.agreed && w.view.ID == w.prom && w.view.Set == est && !w.toldAbove(est, w.view.ID)
	if ident.Least(est) == w.self && need && !stands {
		w.high++
		w.proposal, w.agreed = true, false
		w.view = view(w.high, w.self, est)
		w.prom = w.view.ID
		w.accepted = map[int]bool{w.self: true}
		w.states = []api.State{st}
		if w.allHaveAccepted() {
			w.agreed = true
			w.cur = w.view
			return nil, install(w.view, cut.Join(w.states)...)
		}
	}
	if !w.proposal || w.view.ID != w.prom {
		return nil, nil
	}
	return w.others(func(i int) (api.Frame, bool) {
		if w.agreed {
			return commit(w.self, w.view, cut.Join(w.states)...), w.beatCur[i] != w.view.ID
		}
		return propose(w.self, w.view), !w.accepted[i]
	}), nil
}

func (w *words) in(f api.Frame, st api.State) ([]member.Out, *member.Install, api.Errno) {
	if f.From < 0 || f.From >= w.n || f.From == w.self {
		return nil, nil, api.ErrArg
	}
	switch f.Kind {
	case api.FBeat:
		w.beatCur[f.From], w.beatProm[f.From] = f.Cur, f.Prom
		w.hears(f.Cur.N)
		w.hears(f.Prom.N)
		return nil, nil, api.OK
	case api.FPropose:
		return w.propose(f, st)
	case api.FAccept:
		return w.accept(f)
	case api.FRefuse:
		w.hears(f.Prom.N)
		if w.proposal && !w.agreed && w.view.ID == f.ID && ident.Above(f.Prom, w.view.ID) {
			w.proposal = false
		}
		return nil, nil, api.OK
	case api.FCommit:
		if f.ID != w.prom || f.ID == w.cur.ID || !ident.Has(f.Set, w.self) || f.ID.P != f.From {
			return nil, nil, api.ErrStale
		}
		w.cur = api.View{ID: f.ID, Set: f.Set}
		return nil, install(w.cur, f.States...), api.OK
	}
	return nil, nil, api.ErrForm
}

func (w *words) propose(f api.Frame, st api.State) ([]member.Out, *member.Install, api.Errno) {
	if f.ID.P != f.From || !ident.Has(f.Set, f.From) || !ident.Has(f.Set, w.self) {
		return nil, nil, api.ErrForm
	}
	for i := w.n; i < api.MaxNodes; i++ {
		if ident.Has(f.Set, i) {
			return nil, nil, api.ErrForm
		}
	}
	w.hears(f.ID.N)
	if ident.Above(f.ID, w.prom) {
		w.prom = f.ID
	}
	if f.ID == w.prom && w.cur.ID != f.ID {
		return outs(to(f.From, accept(w.self, f.ID, st))), nil, api.OK
	}
	return outs(to(f.From, refuse(w.self, f.ID, w.prom))), nil, api.ErrStale
}

func (w *words) accept(f api.Frame) ([]member.Out, *member.Install, api.Errno) {
	if !w.proposal || w.agreed || w.view.ID != f.ID || w.view.ID != w.prom {
		return nil, nil, api.ErrStale
	}
	if !ident.Has(w.view.Set, f.From) || w.accepted[f.From] || len(f.States) != 1 {
		return nil, nil, api.ErrStale
	}
	w.accepted[f.From] = true
	w.states = append(w.states, f.States[0])
	if !w.allHaveAccepted() {
		return nil, nil, api.OK
	}
	w.agreed = true
	w.cur = w.view
	l := w.others(func(int) (api.Frame, bool) { return commit(w.self, w.view, cut.Join(w.states)...), true })
	return l, install(w.view, cut.Join(w.states)...), api.OK
}

// anyID: a number that is likely to be met again: near the node's own, or small.
func anyID(r *rand.Rand, w *words) api.ViewID {
	switch r.Intn(5) {
	case 0:
		return w.prom
	case 1:
		return w.cur.ID
	case 2:
		return w.view.ID
	case 3:
		return id(w.prom.N+uint64(r.Intn(2)), r.Intn(w.n))
	}
	return id(uint64(r.Intn(6)), r.Intn(w.n+1))
}

func anySet(r *rand.Rand, w *words) uint16 {
	switch r.Intn(4) {
	case 0:
		return w.view.Set
	case 1:
		return uint16(1<<w.n - 1)
	case 2:
		return uint16(r.Intn(1<<w.n)) | 1<<w.self
	}
	return uint16(r.Intn(1 << 16))
}

func anyState(r *rand.Rand) api.State {
	s := api.State{V: id(uint64(r.Intn(3)), r.Intn(2)), Floor: r.Intn(3)}
	for range r.Intn(3) {
		s.Items = append(s.Items, api.Item{From: r.Intn(3), M: []byte{byte(r.Intn(256))}})
	}
	return s
}

// anyFrame: most are of the form, and near to what the node awaits.
func anyFrame(r *rand.Rand, w *words) api.Frame {
	f := api.Frame{Kind: byte(r.Intn(8)), From: r.Intn(w.n+2) - 1, ID: anyID(r, w), Set: anySet(r, w), Cur: anyID(r, w), Prom: anyID(r, w)}
	if (f.Kind == api.FPropose || f.Kind == api.FCommit) && r.Intn(4) > 0 {
		f.ID.P = f.From
		f.Set = f.Set&uint16(1<<w.n-1) | 1<<w.self
		if f.From >= 0 {
			f.Set |= 1 << f.From
		}
	}
	if f.Kind == api.FCommit && r.Intn(2) == 0 {
		f.ID, f.From = w.prom, w.prom.P
	}
	many := r.Intn(3)
	if f.Kind == api.FAccept && r.Intn(4) > 0 {
		f.ID, many = w.view.ID, 1
	}
	for range many {
		f.States = append(f.States, anyState(r))
	}
	return f
}

// walk hands a node any calls, and asks whether it answers as the words say; it tells what came of them.
func walk(t *testing.T, seed int64, seen map[string]int) string {
	r := rand.New(rand.NewSource(seed))
	n := 1 + r.Intn(5)
	if r.Intn(8) == 0 {
		n = api.MaxNodes
	}
	self := r.Intn(n)
	m, w := memberOf(t, n, self), wordsOf(n, self)
	all := ""
	for step := range 300 {
		st := anyState(r)
		var got, want string
		if r.Intn(4) == 0 {
			est := anySet(r, w)
			got, want = told(m.Tick(est, st)), told(w.tick(est, st))
			seen["tick"]++
		} else {
			f := anyFrame(r, w)
			l, in, e := m.In(f, st)
			x, y, z := w.in(f, st)
			got, want = fmt.Sprint(told(l, in), e), fmt.Sprint(told(x, y), z)
			seen[fmt.Sprint(f.Kind, e, len(l) > 0, in != nil)]++
		}
		if got != want {
			t.Fatalf("%d, step %d: %s, want %s", seed, step, got, want)
		}
		has(t, m, w.cur, w.prom, w.open())
		all += got
	}
	return all
}

// P13.1 to P13.3, P1: whatever comes, a node answers as the document's words say.
func TestAsTheWordsSay(t *testing.T) {
	seen := map[string]int{}
	for seed := range int64(1500) {
		walk(t, seed, seen)
	}
	// what the frames came to: each of these must have been met, so that the walks tell something of it
	for _, k := range []string{
		"1 0 false false",
		"2 0 true false", "2 3 false false", "2 9 true false",
		"3 0 false false", "3 0 true true", "3 9 false false",
		"4 0 false false",
		"5 0 false true", "5 9 false false",
		"6 3 false false", "7 3 false false", "0 1 false false",
	} {
		if seen[k] < 50 {
			t.Errorf("%s was met %d times", k, seen[k])
		}
	}
}

// P2: nodes that were told the same answer the same.
func TestTheSameAgain(t *testing.T) {
	for seed := range int64(20) {
		if a, b := walk(t, seed, map[string]int{}), walk(t, seed, map[string]int{}); a != b {
			t.Fatalf("%d: %s, and %s", seed, a, b)
		}
	}
}
