package judge

import (
	"bytes"
	"slices"

	"folkmoot/api"
)

// sequence: the shortest of which all lists are beginnings, and whose items are of those who told, a beginning of what each one told, in its order; false: there is none.
func sequence(told [][][]byte, lists [][]api.Item) ([]api.Item, bool) {
	// No sequence that is shorter than the longest list has that list as a beginning; and what is asked of a sequence holds for each beginning of it, too.
	whole := longest(lists)
	for _, l := range lists {
		if !slices.EqualFunc(l, whole[:len(l)], same) {
			return nil, false
		}
	}
	if !isTold(whole, told) {
		return nil, false
	}
	return whole, true
}

func longest(lists [][]api.Item) []api.Item {
	var whole []api.Item
	for _, l := range lists {
		if len(l) > len(whole) {
			whole = l
		}
	}
	return whole
}

// isTold: is each item the next one that its node told? What is of nobody who told was told by none.
func isTold(l []api.Item, told [][][]byte) bool {
	counts := make([]int, len(told))
	for _, x := range l {
		if x.From < 0 || x.From >= len(told) {
			return false
		}
		at, own := counts[x.From], told[x.From]
		if at == len(own) || !bytes.Equal(own[at], x.M) {
			return false
		}
		counts[x.From]++
	}
	return true
}

func same(a, b api.Item) bool {
	return a.From == b.From && bytes.Equal(a.M, b.M)
}
