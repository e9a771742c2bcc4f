package win

import (
	"math"
	"math/big"
	"slices"
	"testing"

	"beadle/api"
)

const (
	most  = api.MaxPeriod // 2147483648
	least = math.MinInt64
	great = math.MaxInt64
	many  = 2 * api.MaxServers // 64
)

// goodPairs are some that may be.
var goodPairs = []Pair{{1, 1}, {1, 2}, {2, 2}, {2, 3}, {2, 5}, {4, 5}, {5, 5}, {3, 10}, {7, 15}, {1, 100}, {50, 100}, {1000003, 1 << 30}, {1, most - 1}, {most - 1, most - 1}, {most - 2, most - 1},
	{1, most}, {2, most}, {most / 2, most}, {most/2 + 1, most}, {most - 1, most}, {most, most}}

// badPairs are some that may not.
var badPairs = []Pair{{}, {0, 1}, {0, 5}, {0, most}, {-1, 5}, {-5, 5}, {-1, most}, {least, 5}, {least + 1, 5}, {least, most}, {-1 << 32, 5}, {-1<<32 + 2, 5},
	{2, 1}, {6, 5}, {7, 5}, {most, 5}, {1<<32 + 2, 5}, {great, 5}, {most + 1, most}, {great, most}, {1<<32 + 1, most},
	{1, 0}, {1, -1}, {-1, -1}, {-2, -1}, {1, -5}, {-5, -5}, {1, -1 << 32}, {1, -1<<32 + 5}, {1, least}, {least, least}, {great, least}, {least, great},
	{1, most + 1}, {2, most + 1}, {most, most + 1}, {most + 1, most + 1}, {1, most + 2}, {1, 1 << 32}, {1, 1<<32 + 5}, {2, 1<<32 + 5}, {1<<32 + 2, 1<<32 + 5}, {1, great}, {great - 1, great}, {great, great}}

// badMs are some numbers of CPUs that may not be.
var badMs = []int{math.MinInt, math.MinInt + 1, -1 << 32, -1<<32 + 1, -64, -2, -1, 0, api.MaxCPUs + 1, api.MaxCPUs + 2, 128, 257, 1 << 31, 1 << 32, 1<<32 + 1, 1<<32 + 64, math.MaxInt - 1, math.MaxInt}

// lots are numbers that hang on the first one alone.
type lots uint64

// below tells the next one, from 0 to n less 1.
func (l *lots) below(n int64) int64 {
	*l = *l*6364136223846793005 + 1442695040888963407
	return int64(*l>>33) % n
}

// pair tells a pair whose P is at most top.
func (l *lots) pair(top int64) Pair {
	p := 1 + l.below(top)
	switch l.below(4) {
	case 0:
		return Pair{1 + l.below(min(p, 3)), p}
	case 1:
		return Pair{p - l.below(min(p, 3)), p}
	}
	return Pair{1 + l.below(p), p}
}

// pairs tells n of them.
func (l *lots) pairs(n int, top int64) []Pair {
	some := make([]Pair, n)
	for i := range some {
		some[i] = l.pair(top)
	}
	return some
}

// inWindows tells how many of the n ticks from at on x executes at most, tick
// by tick, where its windows begin at the whole Ps.
func inWindows(x Pair, at, n int64) int64 {
	var all, here int64
	for t := at; t < at+n; t++ {
		if t%x.P == 0 {
			here = 0
		}
		if here < x.Q {
			here++
			all++
		}
	}
	return all
}

// bigWork is Work in numbers of any size, as the chapter's words say it.
func bigWork(x Pair, n int64) int64 {
	p, q := big.NewInt(x.P), big.NewInt(x.Q)
	r := new(big.Int).Add(big.NewInt(n), p)
	r.Sub(r, q)
	whole, rest := new(big.Int).QuoRem(r, p, new(big.Int))
	if rest.Cmp(q) > 0 {
		rest = q
	}
	all := whole.Mul(whole, q)
	all.Add(all, rest)
	if all.Cmp(big.NewInt(n)) > 0 {
		return n
	}
	return all.Int64()
}

// bigOne is One in numbers of any size.
func bigOne(m int, l []Pair, k int) bool {
	spare := big.NewInt(l[k].P)
	spare.Sub(spare, big.NewInt(l[k].Q)).Add(spare, big.NewInt(1))
	all := new(big.Int)
	for i, x := range l {
		takes := big.NewInt(bigWork(x, l[k].P))
		switch {
		case i == k:
		case takes.Cmp(spare) < 0:
			all.Add(all, takes)
		default:
			all.Add(all, spare)
		}
	}
	return all.Cmp(spare.Mul(spare, big.NewInt(int64(m)))) < 0
}

// bigUse is Use in fractions of any size.
func bigUse(l []Pair) (int64, bool) {
	all := new(big.Rat)
	for _, x := range l {
		all.Add(all, big.NewRat(x.Q, x.P))
	}
	whole := new(big.Int).Quo(all.Num(), all.Denom()).Int64()
	if all.IsInt() {
		return whole, true
	}
	return whole + 1, false
}

// checkOne asks One of each place, and All, of a Good list.
func checkOne(t *testing.T, m int, l []Pair) {
	t.Helper()
	old := slices.Clone(l)
	all := true
	for k := range l {
		want := bigOne(m, l, k)
		all = all && want
		if got, e := One(m, l, k); got != want || e != api.OK {
			t.Errorf("P13.1: One(%d, %v, %d): %v, %d, want %v", m, l, k, got, e, want)
		}
	}
	if got, e := All(m, l); got != all || e != api.OK {
		t.Errorf("P13.1: All(%d, %v): %v, %d, want %v", m, l, got, e, all)
	}
	if !slices.Equal(l, old) {
		t.Errorf("P13.1: One or All made %v of %v", l, old)
	}
}

// checkUse asks Use of a Good list.
func checkUse(t *testing.T, l []Pair) {
	t.Helper()
	old := slices.Clone(l)
	whole, least := Use(l)
	if want, exact := bigUse(l); whole != want || least != exact {
		t.Errorf("P13.1: Use(%v): %d, %v, want %d, %v", l, whole, least, want, exact)
	}
	if !slices.Equal(l, old) {
		t.Errorf("P13.1: Use made %v of %v", l, old)
	}
}

func TestExample(t *testing.T) {
	if n, ok := Work(Pair{2, 5}, 12); n != 6 || !ok {
		t.Errorf("P13.1: Work({2, 5}, 12): %d, %v, want 6", n, ok)
	}
}

func TestGood(t *testing.T) {
	for _, x := range goodPairs {
		if !Good(x) {
			t.Errorf("P13.1: Good(%v): false", x)
		}
	}
	for _, x := range badPairs {
		if Good(x) {
			t.Errorf("P13.1: Good(%v): true", x)
		}
	}
	for q := int64(-3); q <= 8; q++ {
		for p := int64(-3); p <= 6; p++ {
			if want := p >= 1 && q >= 1 && q <= p; Good(Pair{q, p}) != want {
				t.Errorf("P13.1: Good({%d, %d}): %v", q, p, !want)
			}
		}
	}
}

func TestWork(t *testing.T) {
	for _, c := range []struct {
		x       Pair
		n, want int64
	}{
		// n below, at and above P less Q, and where N goes up by one
		{Pair{2, 5}, 0, 0}, {Pair{2, 5}, 1, 1}, {Pair{2, 5}, 2, 2}, {Pair{2, 5}, 3, 3}, {Pair{2, 5}, 4, 4}, {Pair{2, 5}, 5, 4}, {Pair{2, 5}, 6, 4}, {Pair{2, 5}, 7, 4}, {Pair{2, 5}, 8, 5}, {Pair{2, 5}, 9, 6}, {Pair{2, 5}, 10, 6}, {Pair{2, 5}, 12, 6}, {Pair{2, 5}, 13, 7}, {Pair{2, 5}, 17, 8},
		{Pair{4, 5}, 0, 0}, {Pair{4, 5}, 1, 1}, {Pair{4, 5}, 4, 4}, {Pair{4, 5}, 5, 5}, {Pair{4, 5}, 8, 8}, {Pair{4, 5}, 9, 8}, {Pair{4, 5}, 10, 9},
		// Q = P, and Q = 1
		{Pair{5, 5}, 0, 0}, {Pair{5, 5}, 1, 1}, {Pair{5, 5}, 4, 4}, {Pair{5, 5}, 5, 5}, {Pair{5, 5}, 12, 12}, {Pair{1, 1}, 0, 0}, {Pair{1, 1}, 1, 1}, {Pair{1, 1}, most, most}, {Pair{5, 5}, most, most},
		{Pair{1, 5}, 0, 0}, {Pair{1, 5}, 1, 1}, {Pair{1, 5}, 2, 2}, {Pair{1, 5}, 6, 2}, {Pair{1, 5}, 7, 3}, {Pair{1, 5}, 11, 3}, {Pair{1, 2}, most, most/2 + 1}, {Pair{1, 2}, most - 1, most / 2},
		// near MaxPeriod
		{Pair{most, most}, 0, 0}, {Pair{most, most}, most - 1, most - 1}, {Pair{most, most}, most, most}, {Pair{1, most}, 1, 1}, {Pair{1, most}, 2, 2}, {Pair{1, most}, most, 2}, {Pair{1, most - 1}, most, 2}, {Pair{1, most - 2}, most, 3},
		{Pair{most / 2, most}, most / 2, most / 2}, {Pair{most / 2, most}, most, most}, {Pair{most/2 - 1, most}, most, most - 2}, {Pair{most/2 + 1, most}, most, most}, {Pair{2, most}, most, 4}, {Pair{most - 1, most}, most, most},
	} {
		if n, ok := Work(c.x, c.n); n != c.want || !ok {
			t.Errorf("P13.1: Work(%v, %d): %d, %v, want %d", c.x, c.n, n, ok, c.want)
		}
	}
}

func TestWorkOfWrong(t *testing.T) {
	for _, x := range badPairs {
		for _, n := range []int64{least, -1, 0, 1, 12, most, great} {
			if got, ok := Work(x, n); got != 0 || ok {
				t.Errorf("P13.1: Work(%v, %d): %d, %v, want 0, false", x, n, got, ok)
			}
		}
	}
	for _, x := range goodPairs {
		for _, n := range []int64{least, least + 1, -1 << 32, -1<<32 + 1, -x.P, x.Q - x.P - 1, -2, -1, most + 1, most + 2, 1 << 32, 1<<32 + 1, api.Horizon, great - 1, great} {
			if got, ok := Work(x, n); got != 0 || ok {
				t.Errorf("P13.1: Work(%v, %d): %d, %v, want 0, false", x, n, got, ok)
			}
		}
	}
}

func TestWorkTickByTick(t *testing.T) {
	for p := int64(1); p <= 9; p++ {
		for q := int64(1); q <= p; q++ {
			for n := int64(0); n <= 4*p+1; n++ {
				var want int64
				for at := range p {
					// A first window's budget may come at its end: those of the
					// later ones come as early as they can.
					ahead := min(n, p-at)
					want = max(want, min(ahead, q)+inWindows(Pair{q, p}, p, n-ahead))
				}
				if got, ok := Work(Pair{q, p}, n); got != want || !ok {
					t.Errorf("P13.1: Work({%d, %d}, %d): %d, %v, want %d", q, p, n, got, ok, want)
				}
			}
		}
	}
}

func TestWorkByLot(t *testing.T) {
	lot := lots(131)
	for range 20000 {
		x := lot.pair([]int64{30, 1000, 1 << 20, most}[lot.below(4)])
		n := lot.below(most + 1)
		switch lot.below(5) {
		case 0:
			n = lot.below(3*min(x.P, most/4) + 1)
		case 1:
			// where N goes up by one, or nearly
			n = min(most, max(0, (1+lot.below(1+most/x.P))*x.P-x.P+x.Q+lot.below(3)-1))
		case 2:
			n = most - lot.below(3)
		}
		if got, ok := Work(x, n); got != bigWork(x, n) || !ok {
			t.Fatalf("P13.1: Work(%v, %d): %d, %v, want %d", x, n, got, ok, bigWork(x, n))
		}
	}
}

func TestTakes(t *testing.T) {
	for _, c := range []struct {
		x, of Pair
		want  int64
	}{
		// Work is the lesser
		{Pair{2, 5}, Pair{1, 12}, 6}, {Pair{2, 5}, Pair{6, 12}, 6}, {Pair{1, 100}, Pair{3, 50}, 2}, {Pair{1, most}, Pair{1, most}, 2}, {Pair{1, most}, Pair{most / 2, most}, 2},
		// both are alike
		{Pair{2, 5}, Pair{7, 12}, 6}, {Pair{1, 100}, Pair{49, 50}, 2}, {Pair{9, 9}, Pair{1, 5}, 5}, {Pair{most, most}, Pair{1, most}, most}, {Pair{1, 1}, Pair{1, 1}, 1}, {Pair{1, most}, Pair{most - 1, most}, 2},
		// what there is to take is the lesser
		{Pair{2, 5}, Pair{8, 12}, 5}, {Pair{2, 5}, Pair{12, 12}, 1}, {Pair{9, 9}, Pair{3, 5}, 3}, {Pair{9, 9}, Pair{5, 5}, 1}, {Pair{1, 100}, Pair{50, 50}, 1}, {Pair{most, most}, Pair{2, most}, most - 1}, {Pair{most, most}, Pair{most, most}, 1}, {Pair{1, most}, Pair{most, most}, 1},
		// of itself too
		{Pair{2, 5}, Pair{2, 5}, 4}, {Pair{4, 5}, Pair{4, 5}, 2},
	} {
		if n, ok := Takes(c.x, c.of); n != c.want || !ok {
			t.Errorf("P13.1: Takes(%v, %v): %d, %v, want %d", c.x, c.of, n, ok, c.want)
		}
	}
	for _, x := range goodPairs {
		for _, of := range goodPairs {
			want := min(bigWork(x, of.P), of.P-of.Q+1)
			if n, ok := Takes(x, of); n != want || !ok {
				t.Errorf("P13.1: Takes(%v, %v): %d, %v, want %d", x, of, n, ok, want)
			}
		}
	}
}

func TestTakesOfWrong(t *testing.T) {
	for _, bad := range badPairs {
		for _, x := range goodPairs {
			if n, ok := Takes(x, bad); n != 0 || ok {
				t.Errorf("P13.1: Takes(%v, %v): %d, %v, want 0, false", x, bad, n, ok)
			}
			if n, ok := Takes(bad, x); n != 0 || ok {
				t.Errorf("P13.1: Takes(%v, %v): %d, %v, want 0, false", bad, x, n, ok)
			}
		}
		for _, x := range badPairs {
			if n, ok := Takes(bad, x); n != 0 || ok {
				t.Errorf("P13.1: Takes(%v, %v): %d, %v, want 0, false", bad, x, n, ok)
			}
		}
	}
}

func TestOne(t *testing.T) {
	ones := make([]Pair, many)
	for i := range ones {
		ones[i] = Pair{most, most}
	}
	full := func(n int) []Pair { return append([]Pair{{1, most}}, ones[:n]...) }
	for _, c := range []struct {
		m    int
		l    []Pair
		k    int
		want bool
	}{
		// alone, with all of its window too
		{1, []Pair{{1, 1}}, 0, true}, {1, []Pair{{2, 5}}, 0, true}, {1, []Pair{{most, most}}, 0, true}, {64, []Pair{{most, most}}, 0, true},
		// 7 of 10 are enough: others take 2 and 4; 3 times 2; 6; 3 and 4; 6 and 2
		{1, []Pair{{4, 10}, {1, 10}, {2, 10}}, 0, true}, {1, []Pair{{4, 10}, {1, 10}, {1, 10}, {1, 1000}}, 0, true}, {1, []Pair{{4, 10}, {3, 10}}, 0, true},
		{1, []Pair{{4, 10}, {1, 5}, {2, 10}}, 0, false}, {1, []Pair{{4, 10}, {3, 10}, {1, 10}}, 0, false},
		// others take 6 of 6; 4 of 5; 4 of 4; 3 of 3, as no more is enough
		{1, []Pair{{5, 10}, {3, 10}}, 0, false}, {1, []Pair{{6, 10}, {2, 10}}, 0, true}, {1, []Pair{{7, 10}, {2, 10}}, 0, false}, {1, []Pair{{8, 10}, {2, 10}}, 0, false},
		// 3 of 4; 3 of 3; 2 of 2
		{1, []Pair{{8, 11}, {1, 5}}, 0, true}, {1, []Pair{{9, 11}, {1, 5}}, 0, false}, {1, []Pair{{10, 11}, {1, 5}}, 0, false},
		// on 2 CPUs 14 are enough: 7 and 6; 7, 3 and 2; 7, 3 and 4; 7, 6 and 2; 7 and 7, the second time of one in two halves
		{2, []Pair{{4, 10}, {10, 10}, {3, 10}}, 0, true}, {2, []Pair{{4, 10}, {10, 10}, {1, 5}, {1, 10}}, 0, true}, {2, []Pair{{4, 10}, {10, 10}, {1, 5}, {2, 10}}, 0, false}, {2, []Pair{{4, 10}, {10, 10}, {3, 10}, {1, 1000}}, 0, false},
		{2, []Pair{{4, 10}, {10, 10}, {10, 10}}, 0, false}, {2, []Pair{{4, 10}, {1, 1}, {1, 2}}, 0, true}, {2, []Pair{{4, 10}, {1, 1}, {1, 1}}, 0, false}, {3, []Pair{{4, 10}, {1, 1}, {1, 1}}, 0, true},
		// k's own does not count, wherever it stands, though it is the greatest
		{1, []Pair{{1, 10}, {8, 10}}, 1, true}, {1, []Pair{{1, 10}, {8, 10}}, 0, false}, {1, []Pair{{2, 10}, {8, 10}}, 1, false}, {1, []Pair{{1, 10}, {6, 10}, {1, 10}}, 1, true}, {1, []Pair{{1, 10}, {1, 10}, {6, 10}}, 2, true},
		{2, []Pair{{1, 100}, {90, 90}, {1, 100}}, 1, false}, {3, []Pair{{1, 100}, {90, 90}, {1, 100}}, 1, true},
		// who is as it counts, as often as it is there
		{1, []Pair{{4, 10}, {4, 10}}, 0, false}, {1, []Pair{{3, 10}, {3, 10}}, 1, true}, {1, []Pair{{3, 10}, {3, 10}, {3, 10}}, 1, false}, {2, []Pair{{3, 10}, {3, 10}, {3, 10}}, 1, true},
		// near the largest numbers
		{1, []Pair{{1, most}, {most, most}}, 0, false}, {1, []Pair{{1, most}, {most/2 - 1, most}}, 0, true}, {1, []Pair{{1, most}, {most / 2, most}}, 0, false},
		{2, []Pair{{1, most}, {most, most}, {most/2 - 1, most}}, 0, true}, {2, []Pair{{1, most}, {most, most}, {most / 2, most}}, 0, false}, {2, []Pair{{1, most}, {most, most}, {most/2 - 1, most}, {1, most}}, 0, false},
		{1, []Pair{{most - 2, most}, {1, most}}, 0, true}, {1, []Pair{{most - 1, most}, {1, most}}, 0, false}, {1, []Pair{{most, most}, {1, most}}, 0, false}, {2, []Pair{{most, most}, {1, most}}, 0, true},
		{62, full(63), 0, false}, {63, full(63), 0, false}, {64, full(63), 0, true}, {63, full(62), 0, true}, {64, ones, 63, true}, {63, ones, 63, false},
	} {
		if got, e := One(c.m, c.l, c.k); got != c.want || e != api.OK {
			t.Errorf("P13.1: One(%d, %v, %d): %v, %d, want %v", c.m, c.l, c.k, got, e, c.want)
		}
		checkOne(t, c.m, c.l)
	}
}

func TestAll(t *testing.T) {
	for m := 1; m <= api.MaxCPUs; m++ {
		for _, none := range [][]Pair{nil, {}, make([]Pair, 0, 3)} {
			if ok, e := All(m, none); !ok || e != api.OK {
				t.Errorf("P13.1: All(%d) of none: %v, %d, want true", m, ok, e)
			}
		}
	}
	// the others take 6 each of it, and 6 times m are enough; all others fit
	for at := range 5 {
		l := []Pair{{5, 100}, {5, 100}, {5, 100}, {5, 100}, {5, 100}}
		l[at] = Pair{5, 10}
		for m := 1; m <= 5; m++ {
			for k := range l {
				if ok, e := One(m, l, k); ok != (k != at || m == 5) || e != api.OK {
					t.Errorf("P13.1: One(%d, %v, %d): %v, %d", m, l, k, ok, e)
				}
			}
			if ok, e := All(m, l); ok != (m == 5) || e != api.OK {
				t.Errorf("P13.1: All(%d, %v): %v, %d, want %v", m, l, ok, e, m == 5)
			}
		}
	}
}

func TestAllInAnyOrder(t *testing.T) {
	for _, c := range []struct {
		m    int
		l    [4]Pair
		want bool
	}{
		{1, [4]Pair{{5, 100}, {6, 120}, {7, 140}, {8, 160}}, true}, {1, [4]Pair{{5, 100}, {6, 120}, {7, 14}, {8, 160}}, false}, {2, [4]Pair{{9, 9}, {1, 1}, {1, 9}, {2, 90}}, false}, {2, [4]Pair{{3, 9}, {2, 9}, {1, 9}, {2, 90}}, true}, {2, [4]Pair{{3, 9}, {2, 9}, {1, 9}, {20, 90}}, false}, {3, [4]Pair{{9, 9}, {9, 9}, {1, 9}, {1, 9}}, false}, {4, [4]Pair{{9, 9}, {1, 1}, {1, 9}, {2, 90}}, true},
	} {
		l := c.l[:]
		var turn func(n int)
		turn = func(n int) {
			if n == len(l) {
				if ok, e := All(c.m, l); ok != c.want || e != api.OK {
					t.Errorf("P13.1: All(%d, %v): %v, %d, want %v", c.m, l, ok, e, c.want)
				}
			}
			for i := n; i < len(l); i++ {
				l[n], l[i] = l[i], l[n]
				turn(n + 1)
				l[n], l[i] = l[i], l[n]
			}
		}
		turn(0)
	}
}

// refused asks One and All of what is wrong, and neither may answer more.
func refused(t *testing.T, m int, l []Pair, ks ...int) {
	t.Helper()
	old := slices.Clone(l)
	for _, k := range ks {
		if ok, e := One(m, l, k); ok || e != api.EARG {
			t.Errorf("P13.1: One(%d, %v, %d): %v, %d, want EARG", m, l, k, ok, e)
		}
	}
	if ok, e := All(m, l); ok || e != api.EARG {
		t.Errorf("P13.1: All(%d, %v): %v, %d, want EARG", m, l, ok, e)
	}
	if !slices.Equal(l, old) {
		t.Errorf("P13.1: One or All made %v of %v", l, old)
	}
}

func TestWrongCPUs(t *testing.T) {
	for _, m := range badMs {
		refused(t, m, nil, 0)
		refused(t, m, []Pair{}, 0, -1)
		refused(t, m, []Pair{{1, 2}}, 0, 1)
		refused(t, m, []Pair{{1, 20}, {1, 20}, {1, 20}}, 0, 1, 2, 3)
		refused(t, m, []Pair{{}}, 0)
	}
	for _, m := range []int{1, 2, 63, 64} {
		if ok, e := One(m, []Pair{{1, 2}}, 0); !ok || e != api.OK {
			t.Errorf("P13.1: One(%d) of one: %v, %d", m, ok, e)
		}
	}
}

func TestWrongPlaces(t *testing.T) {
	room := slices.Repeat([]Pair{{1, 1000}}, many)
	for n := 0; n <= many; n++ {
		l := room[:n]
		for _, k := range []int{math.MinInt, math.MinInt + 1, -1 << 32, -2, -1, n, n + 1, many + 1, 1 << 32, 1<<32 + 1, math.MaxInt - 1, math.MaxInt} {
			if ok, e := One(64, l, k); ok || e != api.EARG {
				t.Errorf("P13.1: One at %d of %d: %v, %d, want EARG", k, n, ok, e)
			}
		}
		for k := range n {
			if ok, e := One(64, l, k); !ok || e != api.OK {
				t.Errorf("P13.1: One at %d of %d: %v, %d", k, n, ok, e)
			}
		}
	}
	if ok, e := One(1, nil, 0); ok || e != api.EARG {
		t.Errorf("P13.1: One of none: %v, %d, want EARG", ok, e)
	}
}

func TestTooMany(t *testing.T) {
	for _, x := range []Pair{{1, most}, {1, 1}, {most, most}, {1, 100000}} {
		l := slices.Repeat([]Pair{x}, many)
		if ok, e := One(64, l, many-1); !ok || e != api.OK {
			t.Errorf("P13.1: One of %d: %v, %d", many, ok, e)
		}
		if ok, e := All(64, l); !ok || e != api.OK {
			t.Errorf("P13.1: All of %d: %v, %d", many, ok, e)
		}
		for _, n := range []int{many + 1, many + 2, 2 * many, 256, 1000} {
			l := slices.Repeat([]Pair{x}, n)
			refused(t, 64, l, 0, 1, many-1, many, n-1, n, -1)
			if whole, least := Use(l); whole != 0 || !least {
				t.Errorf("P13.1: Use of %d: %d, %v, want 0, true", n, whole, least)
			}
		}
	}
}

func TestWrongPairs(t *testing.T) {
	for _, n := range []int{1, 2, 3, many} {
		for at := range n {
			for _, bad := range badPairs {
				l := slices.Repeat([]Pair{{1, 1000}}, n)
				l[at] = bad
				refused(t, 1, l, 0, at, n/2, n-1)
				refused(t, 64, l, 0, at, n/2, n-1)
				if whole, least := Use(l); whole != 0 || !least {
					t.Errorf("P13.1: Use(%v): %d, %v, want 0, true", l, whole, least)
				}
			}
		}
	}
}

func TestSpareRoom(t *testing.T) {
	room := []Pair{{2, 5}, {1, 5}, {}, {5, 5}, {9, 5}}
	l := room[:2]
	for k := range l {
		if ok, e := One(2, l, k); !ok || e != api.OK {
			t.Errorf("P13.1: One at %d of a list with room: %v, %d", k, ok, e)
		}
	}
	if ok, e := All(2, l); !ok || e != api.OK {
		t.Errorf("P13.1: All of a list with room: %v, %d", ok, e)
	}
	if whole, least := Use(l); whole != 1 || least {
		t.Errorf("P13.1: Use of a list with room: %d, %v, want 1, false", whole, least)
	}
	if want := []Pair{{2, 5}, {1, 5}, {}, {5, 5}, {9, 5}}; !slices.Equal(room, want) {
		t.Errorf("P13.1: the list and its room are %v, want %v", room, want)
	}
}

func TestOneByLot(t *testing.T) {
	lot := lots(132)
	yes := 0
	for range 4000 {
		m := 1 + int(lot.below(5))
		if lot.below(8) == 0 {
			m = 1 + int(lot.below(api.MaxCPUs))
		}
		n := int(lot.below(9))
		if lot.below(50) == 0 {
			n = int(lot.below(many + 1))
		}
		l := lot.pairs(n, []int64{6, 40, 1000, most}[lot.below(4)])
		for i := range l {
			if lot.below(2) == 0 {
				l[i].Q = 1 + (l[i].Q-1)/(2+lot.below(20))
			}
		}
		checkOne(t, m, l)
		if ok, _ := All(m, l); ok && n > m {
			yes++
		}
	}
	if yes < 100 {
		t.Errorf("P13.1: of the lists by lot with more pairs than CPUs only %d fit", yes)
	}
}

// greatPrimes are primes from the greatest below MaxPeriod down.
func greatPrimes(n int) []int64 {
	var some []int64
	for p := int64(most - 1); len(some) < n; p -= 2 {
		if big.NewInt(p).ProbablyPrime(0) {
			some = append(some, p)
		}
	}
	return some
}

// nearWhole is a list of one pair for each of these primes, whose use is as near
// above a whole number as it can be (up), or below one.
func nearWhole(primes []int64, up bool) []Pair {
	product := big.NewInt(1)
	for _, p := range primes {
		product.Mul(product, big.NewInt(p))
	}
	var l []Pair
	for _, n := range primes {
		p := big.NewInt(n)
		q := new(big.Int).Quo(product, p)
		q.ModInverse(q, p)
		if !up {
			q.Sub(p, q)
		}
		l = append(l, Pair{q.Int64(), n})
	}
	return l
}

func TestUse(t *testing.T) {
	for _, c := range []struct {
		l     []Pair
		whole int64
		least bool
	}{
		{nil, 0, true}, {[]Pair{}, 0, true},
		// one, with Q = P too
		{[]Pair{{1, 1}}, 1, true}, {[]Pair{{5, 5}}, 1, true}, {[]Pair{{most, most}}, 1, true}, {[]Pair{{1, 2}}, 1, false}, {[]Pair{{4, 5}}, 1, false}, {[]Pair{{1, most}}, 1, false}, {[]Pair{{most - 1, most}}, 1, false},
		// a whole number of them, of one P and of several
		{[]Pair{{2, 5}, {3, 5}}, 1, true}, {[]Pair{{1, 2}, {1, 3}, {1, 6}}, 1, true}, {[]Pair{{6, 6}, {7, 7}}, 2, true}, {[]Pair{{1, 2}, {3, 3}, {5, 10}}, 2, true}, {[]Pair{{2, 3}, {2, 3}, {2, 3}}, 2, true}, {[]Pair{{1, most}, {most - 1, most}}, 1, true}, {[]Pair{{most / 2, most}, {most / 4, most / 2}}, 1, true},
		// just above and just below one
		{[]Pair{{2, 5}, {4, 5}}, 2, false}, {[]Pair{{2, 5}, {2, 5}}, 1, false}, {[]Pair{{1, 2}, {1, 3}, {1, 5}}, 2, false}, {[]Pair{{1, 2}, {1, 3}, {1, 7}}, 1, false}, {[]Pair{{3, 3}, {1, most}}, 2, false}, {[]Pair{{3, 3}, {3, 3}, {most - 1, most}}, 3, false},
		{[]Pair{{most - 1, most}, {1, most - 1}}, 2, false}, {[]Pair{{most - 2, most - 1}, {1, most}}, 1, false}, {[]Pair{{most - 1, most}, {2, most}}, 2, false}, {[]Pair{{most - 1, most}, {most - 1, most}, {2, most}}, 2, true}, {[]Pair{{most - 2, most - 1}, {1, most}, {5, 5}}, 2, false},
	} {
		if whole, least := Use(c.l); whole != c.whole || least != c.least {
			t.Errorf("P13.1: Use(%v): %d, %v, want %d, %v", c.l, whole, least, c.whole, c.least)
		}
		checkUse(t, c.l)
	}
	for _, c := range []struct {
		x     Pair
		whole int64
		least bool
	}{{Pair{1, 1}, many, true}, {Pair{most, most}, many, true}, {Pair{most - 1, most - 1}, many, true}, {Pair{most - 1, most}, many, false}, {Pair{1, most}, 1, false}, {Pair{1, 64}, 1, true}, {Pair{1, 63}, 2, false}, {Pair{1, 65}, 1, false}, {Pair{most / 2, most}, many / 2, true}, {Pair{most/2 + 1, most}, many/2 + 1, false}, {Pair{most/2 - 1, most}, many / 2, false}, {Pair{most / 64, most}, 1, true}} {
		if whole, least := Use(slices.Repeat([]Pair{c.x}, many)); whole != c.whole || least != c.least {
			t.Errorf("P13.1: Use of %v %d times: %d, %v, want %d, %v", c.x, many, whole, least, c.whole, c.least)
		}
	}
}

func TestUseOfUnlike(t *testing.T) {
	primes := greatPrimes(many)
	var whole []Pair
	for _, p := range primes[:many/2] {
		whole = append(whole, Pair{p - 2, p}, Pair{2, p})
	}
	if n, least := Use(whole); n != many/2 || !least {
		t.Errorf("P13.1: Use of %d whole ones: %d, %v", many/2, n, least)
	}
	for i := range whole {
		l := slices.Clone(whole)
		l[i].P++
		if n, least := Use(l); n != many/2 || least {
			t.Errorf("P13.1: Use just below %d, at %d: %d, %v", many/2, i, n, least)
		}
		checkUse(t, l)
		l[i].P -= 2
		if n, least := Use(l); n != many/2+1 || least {
			t.Errorf("P13.1: Use just above %d, at %d: %d, %v", many/2, i, n, least)
		}
		checkUse(t, l)
	}
	for _, n := range []int{1, 2, 3, 4, 5, 31, 32, 33, 62, 63, 64} {
		for _, up := range []bool{false, true} {
			l := nearWhole(primes[:n], up)
			checkUse(t, l)
			slices.Reverse(l)
			checkUse(t, l)
			above, _ := Use(l)
			if other, _ := Use(nearWhole(primes[:n], !up)); above+other != int64(n)+1 {
				t.Errorf("P13.1: Use of %d pairs and of what they leave: %d and %d", n, above, other)
			}
		}
	}
}

func TestUseByLot(t *testing.T) {
	lot := lots(133)
	exact := 0
	for range 3000 {
		n := int(lot.below(6))
		if lot.below(10) == 0 {
			n = int(lot.below(many + 1))
		}
		l := lot.pairs(n, []int64{4, 12, 1000, most}[lot.below(4)])
		if n > 0 && lot.below(3) == 0 {
			// a pair and what it leaves of 1
			x := lot.pair(most)
			if x.Q < x.P {
				l[0] = x
				l[n-1] = Pair{x.P - x.Q, x.P}
			}
		}
		checkUse(t, l)
		if _, least := Use(l); least && n > 1 {
			exact++
		}
	}
	if exact < 100 {
		t.Errorf("P13.1: of the lists by lot only %d use a whole number", exact)
	}
}

func TestAsManyAsCPUs(t *testing.T) {
	edges := []Pair{{1, 1}, {1, 2}, {2, 2}, {1, most}, {most - 1, most}, {most, most}, {most / 2, most}}
	lot := lots(134)
	for m := 1; m <= api.MaxCPUs; m++ {
		var lists [][]Pair
		for _, x := range edges {
			lists = append(lists, slices.Repeat([]Pair{x}, m))
			for _, y := range edges {
				l := slices.Repeat([]Pair{x}, m)
				l[0], l[m/2] = y, y
				lists = append(lists, l)
			}
		}
		for _, top := range []int64{1, 2, 5, 100, most} {
			lists = append(lists, lot.pairs(m, top), lot.pairs(1+int(lot.below(int64(m))), top))
		}
		for _, l := range lists {
			if ok, e := All(m, l); !ok || e != api.OK {
				t.Errorf("P13.2: All(%d) of %d pairs, %v: %v, %d, want true", m, len(l), l, ok, e)
			}
			for k := range l {
				if ok, e := One(m, l, k); !ok || e != api.OK {
					t.Errorf("P13.2: One(%d, %v, %d): %v, %d, want true", m, l, k, ok, e)
				}
			}
		}
	}
}
