package judge

import (
	"folkmoot/api"
	"folkmoot/ident"
)

// agree: is all as it should be between the nodes that had a view of one number?
func agree(l []*stay) bool {
	return oneSet(l) && oneOrder(l) && safeAtAll(l) && sameTogether(l)
}

func oneSet(l []*stay) bool {
	for _, s := range l {
		if s.view.Set != l[0].view.Set {
			return false
		}
	}
	return true
}

// oneOrder: is what they received one sequence's beginnings, and was all of it sent there by those whose it is?
func oneOrder(l []*stay) bool {
	var sent [api.MaxNodes][][]byte
	var got [][]api.Item
	for _, s := range l {
		sent[s.node] = s.sent
		got = append(got, s.got)
	}
	_, ok := sequence(sent[:], got)
	return ok
}

// safeAtAll: has each node of the set received as many as any of them knew to be safe? Where nothing is safe nobody else needs to have the view.
func safeAtAll(l []*stay) bool {
	safe := 0
	var had [api.MaxNodes]int // nothing, without the view
	for _, s := range l {
		safe = max(safe, s.safe)
		had[s.node] = len(s.got)
	}
	for _, i := range ident.List(l[0].view.Set) {
		if had[i] < safe {
			return false
		}
	}
	return true
}

// sameTogether: have those received as many who go on into one view?
func sameTogether(l []*stay) bool {
	for i, a := range l {
		for _, b := range l[:i] {
			if a.next.N > 0 && a.next == b.next && len(a.got) != len(b.got) {
				return false
			}
		}
	}
	return true
}
