package shell

import (
	"bytes"
	"strconv"
	"strings"

	"folkmoot/api"
)

// The kinds of lines that ask: they stand behind the steps' kinds.
const (
	view = api.SCalm + 1 + iota
	got
)

// shape is how a line is written: its word and I, and what is behind them.
type shape struct {
	word    string
	second  bool // K
	message bool // M
}

// shapes stand by the lines' kinds.
var shapes = [...]shape{
	{word: "bcast", message: true},
	{word: "tick"},
	{word: "deliver"},
	{word: "drop"},
	{word: "double"},
	{word: "turn", second: true},
	{word: "cut", second: true},
	{word: "join", second: true},
	{word: "calm"},
	{word: "view"},
	{word: "got"},
}

// digits is how many a number has at most.
const digits = 6

// Parse: the step of a line.
func Parse(t string) (api.Step, api.Errno) {
	x, e := read(t)
	if x.Kind > api.SCalm {
		return api.Step{}, api.ErrText
	}
	return x, e
}

// read: a line by its kind, which may be that of one that asks.
func read(t string) (api.Step, api.Errno) {
	if len(t) > api.MaxLine {
		return api.Step{}, api.ErrLong
	}
	word, rest, _ := strings.Cut(t, " ")
	for kind, s := range shapes {
		if s.word == word {
			return s.read(byte(kind), rest)
		}
	}
	return api.Step{}, api.ErrText
}

// read: what is behind the word and the blank.
func (s shape) read(kind byte, rest string) (api.Step, api.Errno) {
	first, more, parted := strings.Cut(rest, " ")
	i, ok := number(first)
	if !ok || parted != (s.second || s.message) {
		return api.Step{}, api.ErrText
	}
	x := api.Step{Kind: kind, I: i}
	if s.message {
		x.M = []byte(more)
	}
	if s.second {
		x.K, ok = number(more)
	}
	if !ok {
		return api.Step{}, api.ErrText
	}
	return x, api.OK
}

// number: digits, as few as can be; false: it is none.
func number(t string) (int, bool) {
	if len(t) == 0 || len(t) > digits || len(t) > 1 && t[0] == '0' {
		return 0, false
	}
	n := 0
	for _, c := range []byte(t) {
		if c < '0' || c > '9' {
			return 0, false
		}
		n = 10*n + int(c-'0')
	}
	return n, true
}

// Write: the line of a step.
func Write(x api.Step) (string, api.Errno) {
	if x.Kind > api.SCalm {
		return "", api.ErrForm
	}
	t := shapes[x.Kind].write(x)
	// A step has a line just if that tells all of it.
	if y, e := Parse(t); e != api.OK || !same(x, y) {
		return "", api.ErrForm
	}
	return t, api.OK
}

// write: the line of a step of this shape, if there is one.
func (s shape) write(x api.Step) string {
	words := []string{s.word, strconv.Itoa(x.I)}
	if s.second {
		words = append(words, strconv.Itoa(x.K))
	}
	if s.message {
		words = append(words, string(x.M))
	}
	return strings.Join(words, " ")
}

func same(x, y api.Step) bool {
	return x.Kind == y.Kind && x.I == y.I && x.K == y.K && bytes.Equal(x.M, y.M)
}
