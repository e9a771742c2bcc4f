package admit

import (
	"cmp"
	"iter"
	"slices"
)

// leaver is an entry that left.
type leaver struct {
	entry Entry
	num   int // how many were put ahead of it
}

// leavers are those that left. As a tick that is asked of may be below an elder
// one, none of them is ever taken out: the one at i has no greater Till than
// the one at (i-1)/2, so that those that linger are found without looking at
// all that ever left.
type leavers []leaver

// put adds one.
func (l *leavers) put(x Entry) {
	all := append(*l, leaver{entry: x, num: len(*l)})
	*l = all
	for at := len(all) - 1; at > 0; {
		up := (at - 1) / 2
		if all[up].entry.Till >= all[at].entry.Till {
			return
		}
		all[up], all[at] = all[at], all[up]
		at = up
	}
}

// above goes through those with a Till above now, in no order that means anything.
func (l leavers) above(now int64) iter.Seq[leaver] {
	return func(yield func(leaver) bool) { l.walk(0, now, yield) }
}

// walk goes through those from one place downwards, until told to stop; false if it was.
func (l leavers) walk(at int, now int64, yield func(leaver) bool) bool {
	if at >= len(l) || l[at].entry.Till <= now {
		return true
	}
	return yield(l[at]) && l.walk(2*at+1, now, yield) && l.walk(2*at+2, now, yield)
}

// inOrder tells those with a Till above now in the order in which they were put.
func (l leavers) inOrder(now int64) []Entry {
	some := slices.SortedFunc(l.above(now), func(a, b leaver) int { return cmp.Compare(a.num, b.num) })
	entries := make([]Entry, len(some))
	for i, x := range some {
		entries[i] = x.entry
	}
	return entries
}
