package edf

import (
	"math"
	"slices"
	"testing"

	"beadle/api"
)

const (
	least = math.MinInt64
	great = math.MaxInt64
)

// badCPUs are some numbers of CPUs that may not be.
var badCPUs = []int{math.MinInt, math.MinInt + 1, -1 << 32, -1<<32 + 1, -64, -2, -1, 0, api.MaxCPUs + 1, 66, 128, 256, 257, 1 << 31, 1 << 32, 1<<32 + 1, 1<<32 + 64, math.MaxInt}

// badIDs are some that may not be.
var badIDs = []int{math.MinInt, math.MinInt + 1, -1 << 32, -1<<32 + 1, -1024, -2, -1, 1024, 1025, 2047, 2048, 1 << 16, 1 << 31, 1 << 32, 1<<32 + 1, math.MaxInt}

// edges are Dues from the least to the largest.
var edges = []int64{least, least + 1, -1<<32 - 1, -1 << 32, -1 << 31, -1, 0, 1, 2, 1<<31 - 1, 1 << 31, 1<<32 - 1, 1 << 32, 1<<32 + 1, api.Horizon, great - 1, great}

// at is one that is not Fixed, fix one that is.
func at(id int, due int64) Ent  { return Ent{ID: id, Due: due} }
func fix(id int, due int64) Ent { return Ent{ID: id, Due: due, Fixed: true} }

// row makes n of IDs from 0 on, the first ones Fixed, all with Due 0.
func row(n, fixed int) []Ent {
	var l []Ent
	for id := range n {
		l = append(l, Ent{ID: id, Fixed: id < fixed})
	}
	return l
}

// plainLess is Less as the chapter says it.
func plainLess(a, b Ent) bool { return a.Due < b.Due || a.Due == b.Due && a.ID < b.ID }

// plainGood is Good as the chapter says it.
func plainGood(m int, l []Ent) bool {
	fixed := 0
	for i, x := range l {
		for _, y := range l[:i] {
			if x.ID == y.ID {
				return false
			}
		}
		if x.ID < 0 || x.ID > 1023 {
			return false
		}
		if x.Fixed {
			fixed++
		}
	}
	return 1 <= m && m <= 64 && len(l) <= 64 && fixed <= m
}

// plainRuns tells of each whether it runs, as the chapter says it.
func plainRuns(m int, l []Ent) []bool {
	runs := make([]bool, len(l))
	n := 0
	for i, x := range l {
		if x.Fixed {
			runs[i] = true
			n++
		}
	}
	for ; n < m; n++ {
		best := -1
		for i, x := range l {
			if !runs[i] && (best < 0 || plainLess(x, l[best])) {
				best = i
			}
		}
		if best < 0 {
			break
		}
		runs[best] = true
	}
	return runs
}

// plainPick, plainWorst, plainFirst and plainBeats are for what is Good.
func plainPick(m int, l []Ent) []int {
	runs := plainRuns(m, l)
	var list []int
	for i, x := range l {
		if runs[i] {
			list = append(list, x.ID)
		}
	}
	slices.Sort(list)
	return list
}

func plainWorst(m int, l []Ent) (worst Ent, ok bool) {
	for i, runs := range plainRuns(m, l) {
		if runs && !l[i].Fixed && (!ok || plainLess(worst, l[i])) {
			worst, ok = l[i], true
		}
	}
	return worst, ok
}

func plainFirst(m int, l []Ent) (first Ent, ok bool) {
	for i, runs := range plainRuns(m, l) {
		if !runs && (!ok || plainLess(l[i], first)) {
			first, ok = l[i], true
		}
	}
	return first, ok
}

// plainBeats holds who runs without x against who runs with it.
func plainBeats(m int, l []Ent, x Ent) (int, bool) {
	with := append(slices.Clone(l), x)
	if !plainGood(m, with) || !slices.Contains(plainPick(m, with), x.ID) {
		return 0, false
	}
	now := plainPick(m, with)
	for _, id := range plainPick(m, l) {
		if !slices.Contains(now, id) {
			return id, true
		}
	}
	return -1, true
}

func good(t *testing.T, what string, m int, l []Ent, want bool) {
	t.Helper()
	if got := Good(m, l); got != want {
		t.Errorf("P15.1: Good(%d, %s): %v, want %v", m, what, got, want)
	}
}

func picks(t *testing.T, what string, m int, l []Ent, want ...int) {
	t.Helper()
	if got := Pick(m, l); !slices.Equal(got, want) {
		t.Errorf("P15.1: Pick(%d) of %s: %v, want %v", m, what, got, want)
	}
}

func worst(t *testing.T, what string, m int, l []Ent, want Ent, some bool) {
	t.Helper()
	if got, ok := Worst(m, l); got != want || ok != some {
		t.Errorf("P15.1: Worst(%d) of %s: %v, %v, want %v, %v", m, what, got, ok, want, some)
	}
}

func first(t *testing.T, what string, m int, l []Ent, want Ent, some bool) {
	t.Helper()
	if got, ok := First(m, l); got != want || ok != some {
		t.Errorf("P15.1: First(%d) of %s: %v, %v, want %v, %v", m, what, got, ok, want, some)
	}
}

func beats(t *testing.T, what string, m int, l []Ent, x Ent, want int, would bool) {
	t.Helper()
	if got, ok := Beats(m, l, x); got != want || ok != would {
		t.Errorf("P15.1: Beats(%d) of %s by %v: %d, %v, want %d, %v", m, what, x, got, ok, want, would)
	}
}

// nothing checks that no call tells anything of what is not Good.
func nothing(t *testing.T, what string, m int, l []Ent) {
	t.Helper()
	good(t, what, m, l, false)
	picks(t, what, m, l)
	worst(t, what, m, l, Ent{}, false)
	first(t, what, m, l, Ent{}, false)
	for _, x := range []Ent{at(500, -9), at(500, great), fix(500, 0), at(0, -9), at(-1, -9), at(1024, -9)} {
		beats(t, what, m, l, x, 0, false)
	}
}

// orders goes through l in every order, as a new list each.
func orders(l []Ent, see func([]Ent)) {
	var put func(head, rest []Ent)
	put = func(head, rest []Ent) {
		if len(rest) == 0 {
			see(slices.Clone(head))
		}
		for i, x := range rest {
			put(append(head, x), slices.Concat(rest[:i], rest[i+1:]))
		}
	}
	put(nil, l)
}

func TestExample(t *testing.T) {
	picks(t, "Dues 5 and 3", 1, []Ent{at(0, 5), at(1, 3)}, 1)
	picks(t, "Dues 5 and 3", 1, []Ent{at(1, 5), at(0, 3)}, 0)
}

func TestGoodCPUs(t *testing.T) {
	for _, m := range badCPUs {
		for _, l := range [][]Ent{nil, {}, {at(0, 0)}, {at(3, 5), fix(4, 3)}, row(64, 1)} {
			nothing(t, "what may be", m, l)
		}
	}
	for m := 1; m <= api.MaxCPUs; m++ {
		good(t, "nil", m, nil, true)
		good(t, "none", m, []Ent{}, true)
		good(t, "one", m, []Ent{at(0, 0)}, true)
		good(t, "64", m, row(64, 0), true)
	}
}

func TestGoodMany(t *testing.T) {
	for _, m := range []int{1, 2, 63, 64} {
		for n := range 64 {
			good(t, "fewer than 64", m, row(n, min(n, m)), true)
		}
		good(t, "64", m, row(64, m), true)
		for _, n := range []int{65, 66, 128, 256, 320, 1024} {
			nothing(t, "more than 64", m, row(n, 0))
			nothing(t, "more than 64, Fixed ones with them", m, row(n, m))
		}
	}
	many := make([]Ent, 1<<16+1)
	nothing(t, "very many", 1, many)
	nothing(t, "very many, one fewer", 1, many[1:])
}

func TestGoodIDs(t *testing.T) {
	for id := range 1024 {
		good(t, "each ID", 1, []Ent{at(id, 0)}, true)
		good(t, "each ID beside one", 1, []Ent{at((id+1)%1024, 0), fix(id, 0)}, true)
		nothing(t, "an ID twice", 1, []Ent{at(id, 0), at(id, 0)})
		nothing(t, "an ID twice, by others", 2, []Ent{fix(id, 7), at((id+1)%1024, 0), at(id, -7)})
	}
	for _, id := range badIDs {
		for _, m := range []int{1, 2, 64} {
			nothing(t, "a bad ID", m, []Ent{at(id, 0)})
			nothing(t, "a bad ID that is Fixed", m, []Ent{fix(id, 0)})
			nothing(t, "a bad ID first", m, []Ent{at(id, 0), at(1, 0), at(2, 0)})
			nothing(t, "a bad ID last", m, []Ent{at(1, 0), at(2, 0), at(id, 0)})
			nothing(t, "a bad ID as the 64th", m, append(row(63, 0), at(id, 0)))
			nothing(t, "a bad ID twice", m, []Ent{at(id, 0), at(id, 0)})
		}
	}
	for i := range 64 {
		for j := range i {
			l := row(64, 0)
			l[i].ID = l[j].ID
			good(t, "64 with an ID twice", 64, l, false)
		}
	}
}

func TestGoodFixed(t *testing.T) {
	for m := 1; m <= api.MaxCPUs; m++ {
		good(t, "m Fixed", m, row(m, m), true)
		good(t, "m Fixed of 64", m, row(64, m), true)
		good(t, "m less one Fixed", m, row(64, m-1), true)
		if m < 64 {
			nothing(t, "one more Fixed", m, row(m+1, m+1))
			nothing(t, "one more Fixed of 64", m, row(64, m+1))
			nothing(t, "all of 64 Fixed", m, row(64, 64))
			l := row(64, m)
			l[63].Fixed = true
			nothing(t, "one more Fixed, the last one", m, l)
		}
	}
	good(t, "any Dues", 2, []Ent{at(0, least), fix(1, great), at(2, -1), fix(3, 0)}, true)
}

func TestLess(t *testing.T) {
	for i, due := range edges {
		for j, other := range edges {
			for _, ids := range [][2]int{{0, 0}, {0, 1}, {1, 0}, {1023, 1023}, {1023, 0}, {0, 1023}, {5, 6}, {-1, 1024}, {math.MinInt, math.MaxInt}, {math.MaxInt, math.MinInt}} {
				for _, fixed := range [][2]bool{{false, false}, {true, false}, {false, true}, {true, true}} {
					a, b := Ent{ids[0], due, fixed[0]}, Ent{ids[1], other, fixed[1]}
					want := i < j || i == j && ids[0] < ids[1]
					if got := Less(a, b); got != want {
						t.Errorf("P15.1: Less(%v, %v): %v, want %v", a, b, got, want)
					}
				}
			}
		}
		if Less(at(3, due), at(3, due)) || Less(fix(3, due), fix(3, due)) {
			t.Errorf("P15.1: one is Less than itself, Due %d", due)
		}
	}
}

func TestPick(t *testing.T) {
	picks(t, "nil", 1, nil)
	picks(t, "none", 64, []Ent{})
	for _, c := range []struct {
		what string
		m    int
		l    []Ent
		want []int
	}{
		{"one", 1, []Ent{at(1023, great)}, []int{1023}},
		{"fewer than m", 3, []Ent{at(9, 1), at(4, 2)}, []int{4, 9}},
		{"just m", 3, []Ent{at(9, 1), at(4, 2), at(6, 0)}, []int{4, 6, 9}},
		{"one more", 3, []Ent{at(9, 1), at(4, 2), at(6, 0), at(5, 3)}, []int{4, 6, 9}},
		{"many more", 2, []Ent{at(9, 1), at(4, 7), at(6, 0), at(5, 3), at(0, 8)}, []int{6, 9}},
		{"one Fixed behind all", 1, []Ent{at(9, 1), at(4, 7), fix(6, 99)}, []int{6}},
		{"one Fixed ahead of all", 1, []Ent{at(9, 1), at(4, 7), fix(6, -99)}, []int{6}},
		{"one Fixed of two", 2, []Ent{at(9, 1), at(4, 7), fix(6, 99), at(0, 2)}, []int{6, 9}},
		{"one Fixed ahead of all, of two", 2, []Ent{at(9, 1), at(4, 7), fix(6, 0), at(0, 2)}, []int{6, 9}},
		{"two Fixed of three", 3, []Ent{at(9, 1), fix(4, great), fix(6, 99), at(0, 0)}, []int{0, 4, 6}},
		{"just m Fixed behind all others", 2, []Ent{at(9, 1), fix(4, great), fix(6, 99), at(0, 0)}, []int{4, 6}},
		{"just m Fixed and no others", 2, []Ent{fix(4, 0), fix(6, 0)}, []int{4, 6}},
		{"fewer than m, one Fixed", 5, []Ent{at(9, 1), fix(4, 3), at(6, 2)}, []int{4, 6, 9}},
		{"equal Dues", 2, []Ent{at(9, 5), at(4, 5), at(6, 5), at(5, 5)}, []int{4, 5}},
		{"equal Dues behind one", 2, []Ent{at(9, 4), at(4, 5), at(6, 5), at(5, 5)}, []int{4, 9}},
		{"equal Dues, one Fixed", 2, []Ent{fix(9, 5), at(4, 5), at(6, 5), at(5, 5)}, []int{4, 9}},
		{"least and largest Dues", 2, []Ent{at(0, great), at(1, least), at(2, great-1), at(3, least+1)}, []int{1, 3}},
	} {
		orders(c.l, func(l []Ent) { picks(t, c.what, c.m, l, c.want...) })
	}
}

func TestPickMany(t *testing.T) {
	for m := 1; m <= api.MaxCPUs; m++ {
		var up, down, ids []int
		rising, falling := row(64, 0), row(64, 0)
		for i := range 64 {
			rising[i].Due, falling[i].Due = int64(i), int64(-i)
			ids = append(ids, i)
		}
		up, down = ids[:m], ids[64-m:]
		picks(t, "64 of rising Dues", m, rising, up...)
		picks(t, "64 of falling Dues", m, falling, down...)
		picks(t, "64 of equal Dues", m, row(64, 0), up...)
		slices.Reverse(rising)
		slices.Reverse(falling)
		picks(t, "64 of rising Dues, turned", m, rising, up...)
		picks(t, "64 of falling Dues, turned", m, falling, down...)
	}
}

func TestWorst(t *testing.T) {
	worst(t, "nil", 1, nil, Ent{}, false)
	worst(t, "none", 64, []Ent{}, Ent{}, false)
	for _, c := range []struct {
		what string
		m    int
		l    []Ent
		want Ent
		some bool
	}{
		{"one", 1, []Ent{at(0, 0)}, at(0, 0), true},
		{"one that is Fixed", 1, []Ent{fix(3, 4)}, Ent{}, false},
		{"just m Fixed", 2, []Ent{fix(3, 4), fix(2, 9), at(1, 0), at(4, 20)}, Ent{}, false},
		{"fewer than m, all Fixed", 3, []Ent{fix(3, 4), fix(2, 9)}, Ent{}, false},
		{"one not Fixed behind the Fixed", 2, []Ent{fix(3, 4), at(2, 9)}, at(2, 9), true},
		{"one not Fixed ahead of the Fixed", 2, []Ent{fix(3, 9), at(2, 4)}, at(2, 4), true},
		{"one that runs beside one Fixed", 2, []Ent{fix(3, 9), at(2, 4), at(1, 5)}, at(2, 4), true},
		{"fewer than m", 4, []Ent{at(3, 9), at(2, 4), at(1, 5)}, at(3, 9), true},
		{"just m", 3, []Ent{at(3, 9), at(2, 4), at(1, 5)}, at(3, 9), true},
		{"more than m", 2, []Ent{at(3, 9), at(2, 4), at(1, 5)}, at(1, 5), true},
		{"more than m of equal Dues", 2, []Ent{at(3, 5), at(2, 5), at(1, 5), at(4, 5)}, at(2, 5), true},
		{"equal Dues, one Fixed", 3, []Ent{fix(9, 5), at(2, 5), at(1, 5), at(4, 5)}, at(2, 5), true},
		{"largest Dues", 2, []Ent{at(9, great), at(2, great), at(3, great)}, at(3, great), true},
		{"least Dues", 1, []Ent{at(9, least), at(2, least+1)}, at(9, least), true},
	} {
		orders(c.l, func(l []Ent) { worst(t, c.what, c.m, l, c.want, c.some) })
	}
}

func TestFirst(t *testing.T) {
	first(t, "nil", 1, nil, Ent{}, false)
	first(t, "none", 64, []Ent{}, Ent{}, false)
	for _, c := range []struct {
		what string
		m    int
		l    []Ent
		want Ent
		some bool
	}{
		{"one", 1, []Ent{at(0, 0)}, Ent{}, false},
		{"one that is Fixed", 1, []Ent{fix(3, 4)}, Ent{}, false},
		{"fewer than m", 3, []Ent{at(3, 4), fix(2, 9)}, Ent{}, false},
		{"just m", 3, []Ent{at(3, 4), fix(2, 9), at(1, 1)}, Ent{}, false},
		{"one that does not run", 3, []Ent{at(3, 4), fix(2, 9), at(1, 1), at(8, 6)}, at(8, 6), true},
		{"one that does not run for a Fixed one", 1, []Ent{at(3, 4), fix(2, 9)}, at(3, 4), true},
		{"several that do not run", 1, []Ent{at(3, 4), at(2, 9), at(1, 6), at(5, 7)}, at(1, 6), true},
		{"several ahead of those that are Fixed", 2, []Ent{at(3, 4), fix(2, 9), at(1, 6), fix(5, 7)}, at(3, 4), true},
		{"one behind the Fixed", 1, []Ent{fix(0, 0), at(1, 6), at(5, 7)}, at(1, 6), true},
		{"equal Dues", 2, []Ent{at(3, 5), at(2, 5), at(1, 5), at(4, 5)}, at(3, 5), true},
		{"equal Dues, one Fixed", 2, []Ent{fix(9, 5), at(2, 5), at(1, 5), at(4, 5)}, at(2, 5), true},
		{"equal Dues behind one", 1, []Ent{at(9, 4), at(2, 5), at(7, 5), at(4, 5)}, at(2, 5), true},
		{"largest Dues", 1, []Ent{at(2, great), at(9, great)}, at(9, great), true},
		{"least Dues", 1, []Ent{fix(9, great), at(2, least), at(3, least)}, at(2, least), true},
	} {
		orders(c.l, func(l []Ent) { first(t, c.what, c.m, l, c.want, c.some) })
	}
}

func TestBeats(t *testing.T) {
	beats(t, "nil", 1, nil, at(0, great), -1, true)
	beats(t, "none", 64, []Ent{}, fix(1023, least), -1, true)
	for _, c := range []struct {
		what  string
		m     int
		l     []Ent
		x     Ent
		want  int
		would bool
	}{
		{"room for one", 3, []Ent{at(3, 4), at(2, 9)}, at(1, 20), -1, true},
		{"room for one that is Fixed", 3, []Ent{at(3, 4), at(2, 9)}, fix(1, 20), -1, true},
		{"room for one, the others Fixed", 3, []Ent{fix(3, 4), fix(2, 9)}, at(1, 20), -1, true},
		{"room for one ahead of all", 3, []Ent{at(3, 4), at(2, 9)}, at(1, 0), -1, true},
		{"the greatest gives way", 2, []Ent{at(3, 4), at(2, 9)}, at(1, 0), 2, true},
		{"the greatest gives way to the one behind the other", 2, []Ent{at(3, 4), at(2, 9)}, at(1, 8), 2, true},
		{"the greatest of those that ran gives way", 2, []Ent{at(3, 4), at(2, 9), at(5, 10), at(6, 11)}, at(1, 0), 2, true},
		{"behind the greatest", 2, []Ent{at(3, 4), at(2, 9)}, at(1, 10), 0, false},
		{"behind the greatest that runs, ahead of another", 2, []Ent{at(3, 4), at(2, 9), at(0, 20)}, at(1, 10), 0, false},
		{"the greatest that is not Fixed", 2, []Ent{at(3, 4), fix(2, 9)}, at(1, 0), 3, true},
		{"behind the one that is not Fixed, ahead of the Fixed", 2, []Ent{at(3, 4), fix(2, 9)}, at(1, 5), 0, false},
		{"ahead of all, of whom all that run are Fixed", 2, []Ent{fix(3, 4), fix(2, 9), at(7, 1)}, at(1, 0), 0, false},
		{"Fixed, behind all", 2, []Ent{at(3, 4), at(2, 9)}, fix(1, great), 2, true},
		{"Fixed, ahead of all", 2, []Ent{at(3, 4), at(2, 9)}, fix(1, least), 2, true},
		{"Fixed, m Fixed less one", 2, []Ent{at(3, 4), fix(2, 9), at(5, 3)}, fix(1, great), 5, true},
		{"Fixed, m Fixed less one and room", 2, []Ent{fix(2, 9)}, fix(1, great), -1, true},
		{"Fixed, m Fixed", 2, []Ent{fix(3, 4), fix(2, 9), at(5, 3)}, fix(1, least), 0, false},
		{"not Fixed, m Fixed less one and none to give way", 2, []Ent{fix(2, 9)}, at(1, great), -1, true},
		{"not Fixed, m Fixed and none to give way", 2, []Ent{fix(2, 9), fix(3, 9)}, at(1, least), 0, false},
		{"equal Dues, a lower ID", 2, []Ent{at(3, 5), at(2, 5), at(7, 5)}, at(1, 5), 3, true},
		{"equal Dues, an ID between", 2, []Ent{at(4, 5), at(2, 5), at(7, 5)}, at(3, 5), 4, true},
		{"equal Dues, a greater ID", 2, []Ent{at(3, 5), at(2, 5), at(7, 5)}, at(4, 5), 0, false},
		{"equal Dues, Fixed, a greater ID", 2, []Ent{at(3, 5), at(2, 5), at(7, 5)}, fix(9, 5), 3, true},
		{"ID 0 gives way", 1, []Ent{at(0, 5)}, at(1, 4), 0, true},
		{"ID 0 stays", 1, []Ent{at(0, 5)}, at(1, 5), 0, false},
		{"largest Dues", 1, []Ent{at(1023, great)}, at(1022, great), 1023, true},
		{"least Dues", 1, []Ent{at(0, least)}, at(1, least), 0, false},
		{"its ID in l", 2, []Ent{at(3, 4), at(2, 9)}, at(2, 0), 0, false},
		{"its ID in l, with room", 5, []Ent{at(3, 4), at(2, 9)}, at(2, 9), 0, false},
		{"its ID in l, Fixed", 5, []Ent{at(3, 4), at(2, 9)}, fix(3, 4), 0, false},
		{"its ID among those that do not run", 1, []Ent{at(3, 4), at(2, 9)}, at(2, 0), 0, false},
	} {
		orders(c.l, func(l []Ent) { beats(t, c.what, c.m, l, c.x, c.want, c.would) })
	}
	for _, id := range badIDs {
		beats(t, "what may be, a bad ID", 3, []Ent{at(3, 4)}, at(id, 0), 0, false)
		beats(t, "what may be, a bad ID that is Fixed", 3, []Ent{at(3, 4)}, fix(id, 0), 0, false)
		beats(t, "none, a bad ID", 3, nil, at(id, 0), 0, false)
	}
}

// With 63 and one more l and x are Good together, with 64 and one more not.
func TestBeatsMany(t *testing.T) {
	for m := 1; m <= api.MaxCPUs; m++ {
		late := 62
		if m < 64 {
			late = m - 1
		}
		want := late
		if m == 64 {
			want = -1
		}
		beats(t, "63", m, row(63, 0), at(1000, -1), want, true)
		beats(t, "63", m, row(63, 0), fix(1000, 1), want, true)
		beats(t, "63, behind all", m, row(63, 0), at(1000, 1), min(0, want), m == 64)
		beats(t, "64", m, row(64, 0), at(1000, -1), 0, false)
		beats(t, "64", m, row(64, 0), fix(1000, -1), 0, false)
		beats(t, "m Fixed", m, row(m, m), at(1000, -1), 0, false)
		beats(t, "m Fixed", m, row(m, m), fix(1000, -1), 0, false)
		beats(t, "m Fixed less one and none else", m, row(m-1, m-1), fix(1000, 1), -1, true)
		if m < 64 {
			beats(t, "m Fixed less one", m, row(m, m-1), fix(1000, 1), m-1, true)
			beats(t, "more than m Fixed", m, row(m+1, m+1), at(1000, -1), 0, false)
		}
	}
}

// plenty is a list with spare room, in which something stands.
func plenty() []Ent {
	return []Ent{at(9, 5), fix(2, 8), at(1, 5), at(7, 3), fix(5, 0), at(11, 11), fix(12, 12)}[:5]
}

func TestLeft(t *testing.T) {
	for _, m := range []int{-1, 0, 1, 2, 3, 4, 5, 6, 64, 65} {
		l := plenty()
		Good(m, l)
		Pick(m, l)
		Worst(m, l)
		First(m, l)
		for _, x := range []Ent{at(0, 0), at(0, 20), fix(0, 0), at(9, 9), at(-1, 0)} {
			Beats(m, l, x)
		}
		if !slices.Equal(l[:7], plenty()[:7]) {
			t.Errorf("R4: after calls with %d CPUs: %v", m, l[:7])
		}
	}
}

func TestNew(t *testing.T) {
	l := plenty()
	old := Pick(4, l)
	other := Pick(4, l)
	for i := range old[:cap(old)] {
		old[:cap(old)][i] = -7
	}
	if want := []int{1, 2, 5, 7}; !slices.Equal(other, want) || !slices.Equal(Pick(4, l), want) {
		t.Errorf("R4: Pick after an elder answer was changed: %v, %v", other, Pick(4, l))
	}
}

// check holds each call on l, and on l with x, against the plain reckoning.
func check(t *testing.T, m int, l []Ent, x Ent) {
	t.Helper()
	old := slices.Clone(l)
	fine := plainGood(m, l)
	good(t, "these", m, l, fine)
	var pick []int
	var last, next Ent
	var some, more bool
	if fine {
		pick = plainPick(m, l)
		last, some = plainWorst(m, l)
		next, more = plainFirst(m, l)
	}
	picks(t, "these", m, l, pick...)
	worst(t, "these", m, l, last, some)
	first(t, "these", m, l, next, more)
	out, would := plainBeats(m, l, x)
	beats(t, "these", m, l, x, out, would)
	agrees(t, m, l, x)
	if !slices.Equal(l, old) {
		t.Errorf("R4: %v, was %v", l, old)
	}
	if t.Failed() {
		t.Fatalf("with %d CPUs and %v, %v", m, l, x)
	}
}

// agrees checks Beats against Pick of l with x and without.
func agrees(t *testing.T, m int, l []Ent, x Ent) {
	t.Helper()
	out, would := Beats(m, l, x)
	with := Pick(m, append(slices.Clone(l), x))
	if would != slices.Contains(with, x.ID) {
		t.Errorf("P15.1: Beats: %d, %v; Pick with it: %v", out, would, with)
	}
	if !would {
		return
	}
	without := append(Pick(m, l), x.ID)
	without = slices.DeleteFunc(without, func(id int) bool { return id == out })
	slices.Sort(without)
	if !slices.Equal(with, without) {
		t.Errorf("P15.1: Beats: %d, %v; Pick with it: %v, without: %v", out, would, with, Pick(m, l))
	}
}

// All lists of up to four, and one more, with Dues of a few.
func TestSmall(t *testing.T) {
	var fill func(l []Ent, n int)
	fill = func(l []Ent, n int) {
		for m := range 5 {
			for _, due := range []int64{0, 1} {
				check(t, m, l, at(3, due))
				check(t, m, l, fix(3, due))
			}
		}
		if n == 0 {
			return
		}
		for _, id := range []int{4, 2, 5, 3} {
			for _, due := range []int64{0, 1} {
				for _, fixed := range []bool{false, true} {
					fill(append(slices.Clone(l), Ent{id, due, fixed}), n-1)
				}
			}
		}
	}
	fill(nil, 3)
}

// lots is a row of numbers that look like any.
type lots uint64

func (l *lots) below(n int) int {
	*l = *l*6364136223846793005 + 1442695040888963407
	return int(uint64(*l) >> 33 % uint64(n))
}

// list makes one of n, now and then with an ID twice or a bad one, the Dues below wide, so many in ten Fixed.
func (l *lots) list(n, wide, tenths int) []Ent {
	var some []Ent
	id, pace := l.below(1024), []int{1, 5, 17, 255, 1023}[l.below(5)]
	for range n {
		some = append(some, Ent{ID: id, Due: int64(l.below(wide)) - int64(wide/2), Fixed: l.below(10) < tenths})
		id = (id + pace) % 1024
	}
	for i := range some {
		j := l.below(i + 1)
		some[i], some[j] = some[j], some[i]
	}
	if n > 0 && l.below(12) == 0 {
		some[l.below(n)].ID = some[l.below(n)].ID + []int{0, 0, -1024, 1024}[l.below(4)]
	}
	return some
}

func TestByLot(t *testing.T) {
	l := lots(15)
	fine, ran, room, out := 0, 0, 0, 0
	for i := range 12000 {
		m := 1 + i%64
		if i%3 == 0 {
			m = 1 + i/3%4
		}
		n := l.below(66)
		if i%2 == 0 {
			n = min(65, m+l.below(3))
		}
		wide, tenths := []int{1, 4, 30, 1 << 30}[l.below(4)], []int{0, 0, 1, 3}[l.below(4)]
		some := l.list(n, wide, tenths)
		x := Ent{ID: l.below(1024), Due: int64(l.below(wide)) - int64(wide/2), Fixed: l.below(4) == 0}
		if n > 0 && l.below(4) > 0 {
			x.ID = (some[l.below(n)].ID + 1) % 1024
		}
		check(t, m, some, x)
		who, would := Beats(m, some, x)
		switch {
		case would && who < 0:
			room++
		case would:
			out++
		case Good(m, append(some, x)):
			ran++
		}
		if Good(m, some) {
			fine++
		}
	}
	for what, n := range map[string]int{"Good": fine, "with room": room, "with one pushed out": out, "that would not run": ran} {
		if n < 1000 {
			t.Errorf("the lot held %d %s", n, what)
		}
	}
}
