package tick

import (
	"math"
	"math/big"
	"testing"

	"beadle/api"
)

const (
	top  = int64(api.Horizon)
	wide = int64(api.MaxPeriod)
)

// edges are numbers at and about every limit that chapter 1 names, and those where int64 wraps round.
var edges = []int64{
	math.MinInt64, math.MinInt64 + 1, -top - 1, -top, -wide, -2, -1, 0, 1, 2, 3, 7,
	1<<20 - 1, 1 << 20, wide/2 + 1, wide - 1, wide, wide + 1, 2 * wide,
	1<<33 + 1, 3037000499, 3037000500, top/3 + 1, top/2 - 1, top / 2, top/2 + 1,
	top - wide - 1, top - wide, top - wide + 1, top - 2, top - 1, top, top + 1, math.MaxInt64 - 1, math.MaxInt64,
}

func within(x, low, high int64) bool { return low <= x && x <= high }

// exactly turns a sum of any size into the answer that the promise asks for.
func exactly(known bool, n *big.Int) (int64, bool) {
	if !known || n.Sign() < 0 || n.Cmp(big.NewInt(top)) > 0 {
		return 0, false
	}
	return n.Int64(), true
}

func check(t *testing.T, call string, args []int64, got int64, ok bool, want int64, wantOK bool) {
	t.Helper()
	if got != want || ok != wantOK {
		t.Errorf("P1.1: %s%v: %d, %v; want %d, %v", call, args, got, ok, want, wantOK)
	}
}

func TestGood(t *testing.T) {
	for _, n := range []int64{0, 1, wide, wide + 1, top - 1, top} {
		if !Good(n) {
			t.Errorf("P1.1: Good(%d) is false", n)
		}
	}
	for _, n := range []int64{-1, -top, math.MinInt64, top + 1, math.MaxInt64} {
		if Good(n) {
			t.Errorf("P1.1: Good(%d) is true", n)
		}
	}
}

func TestAddSubMulByHand(t *testing.T) {
	type call struct {
		name string
		do   func(a, b int64) (int64, bool)
	}
	add, sub, mul := call{"Add", Add}, call{"Sub", Sub}, call{"Mul", Mul}
	for _, c := range []struct {
		call
		a, b, want int64
		ok         bool
	}{
		{add, 7, 5, 12, true},
		{add, 0, top, top, true},
		{add, top - 1, 1, top, true},
		{add, top, 1, 0, false},
		{add, top, top, 0, false},
		{add, -1, 5, 0, false},
		{add, top + 1, 0, 0, false},
		{sub, 7, 5, 2, true},
		{sub, 5, 5, 0, true},
		{sub, top, top, 0, true},
		{sub, 5, 6, 0, false},
		{sub, 5, -1, 0, false},
		{sub, top + 1, 1, 0, false},
		{mul, 7, 5, 35, true},
		{mul, 0, top, 0, true},
		{mul, wide, wide, top, true},
		{mul, wide, wide + 1, 0, false},
		{mul, 2 * wide, 2 * wide, 0, false}, // 2^64 wraps round to 0
		{mul, -2, -3, 0, false},
		{mul, 0, top + 1, 0, false},
	} {
		got, ok := c.do(c.a, c.b)
		check(t, c.name, []int64{c.a, c.b}, got, ok, c.want, c.ok)
	}
}

func TestAddSubMulAtEdges(t *testing.T) {
	for _, a := range edges {
		for _, b := range edges {
			known := within(a, 0, top) && within(b, 0, top)
			x, y, args := big.NewInt(a), big.NewInt(b), []int64{a, b}
			got, ok := Add(a, b)
			want, wantOK := exactly(known, new(big.Int).Add(x, y))
			check(t, "Add", args, got, ok, want, wantOK)
			got, ok = Sub(a, b)
			want, wantOK = exactly(known, new(big.Int).Sub(x, y))
			check(t, "Sub", args, got, ok, want, wantOK)
			got, ok = Mul(a, b)
			want, wantOK = exactly(known, new(big.Int).Mul(x, y))
			check(t, "Mul", args, got, ok, want, wantOK)
		}
	}
}

func TestShareByHand(t *testing.T) {
	for _, c := range []struct {
		x, q, p, want int64
		ok            bool
	}{
		{7, 2, 3, 4, true},
		{6, 2, 3, 4, true},
		{5, 2, 3, 3, true},
		{0, 1, 1, 0, true},
		{9, 0, 4, 0, true},
		{9, 4, 4, 9, true},
		{wide, wide, wide, wide, true},
		{wide - 1, wide - 1, wide, wide - 2, true},
		{-1, 1, 1, 0, false},
		{wide + 1, 1, 1, 0, false},
		{5, -1, 2, 0, false},
		{5, 3, 2, 0, false},
		{5, 0, 0, 0, false},
		{5, -3, -2, 0, false},
		{5, 1, wide + 1, 0, false},
	} {
		got, ok := Share(c.x, c.q, c.p)
		check(t, "Share", []int64{c.x, c.q, c.p}, got, ok, c.want, c.ok)
	}
}

func TestShareAtEdges(t *testing.T) {
	for _, x := range edges {
		for _, q := range edges {
			for _, p := range edges {
				var want int64
				known := within(x, 0, wide) && within(p, 1, wide) && within(q, 0, p)
				if known {
					n := new(big.Int).Mul(big.NewInt(x), big.NewInt(q))
					want = n.Div(n, big.NewInt(p)).Int64()
				}
				got, ok := Share(x, q, p)
				check(t, "Share", []int64{x, q, p}, got, ok, want, known)
			}
		}
	}
}

func TestCmpByHand(t *testing.T) {
	for _, c := range []struct {
		a, b, c, d int64
		want       int64
		ok         bool
	}{
		{1, 2, 2, 4, 0, true},
		{1, 3, 1, 2, -1, true},
		{2, 3, 1, 2, 1, true},
		{0, 5, 0, 9, 0, true},
		{0, 5, 1, wide, -1, true},
		{wide, 1, wide, 1, 0, true},
		{wide, wide - 1, wide - 1, wide, 1, true},
		{wide - 2, wide - 1, wide - 1, wide, -1, true}, // apart by less than 2^-61
		{-1, 1, 1, 1, 0, false},
		{wide + 1, 1, 1, 1, 0, false},
		{1, 0, 1, 1, 0, false},
		{1, wide + 1, 1, 1, 0, false},
		{1, 1, -1, 1, 0, false},
		{1, 1, wide + 1, 1, 0, false},
		{1, 1, 1, 0, 0, false},
		{1, 1, 1, wide + 1, 0, false},
		{1, -2, 1, -3, 0, false},
	} {
		got, ok := Cmp(c.a, c.b, c.c, c.d)
		check(t, "Cmp", []int64{c.a, c.b, c.c, c.d}, int64(got), ok, c.want, c.ok)
	}
}

func TestCmpAtEdges(t *testing.T) {
	few := []int64{math.MinInt64, -1, 0, 1, 2, 3, wide - 1, wide, wide + 1, top, math.MaxInt64}
	for _, a := range few {
		for _, b := range few {
			for _, c := range few {
				for _, d := range few {
					want := 0
					known := within(a, 0, wide) && within(b, 1, wide) && within(c, 0, wide) && within(d, 1, wide)
					if known {
						want = big.NewRat(a, b).Cmp(big.NewRat(c, d))
					}
					got, ok := Cmp(a, b, c, d)
					check(t, "Cmp", []int64{a, b, c, d}, int64(got), ok, int64(want), known)
				}
			}
		}
	}
}

func TestWindowsByHand(t *testing.T) {
	for _, c := range []struct {
		x, p, want int64
		ok         bool
	}{
		{12, 5, 2, true},
		{10, 5, 2, true},
		{9, 5, 1, true},
		{4, 5, 0, true},
		{0, 5, 0, true},
		{top, 1, top, true},
		{top, wide, wide, true},
		{top - 1, wide, wide - 1, true},
		{-1, 1, 0, false},
		{top + 1, 1, 0, false},
		{5, 0, 0, false},
		{5, -1, 0, false},
		{5, wide + 1, 0, false},
	} {
		got, ok := Windows(c.x, c.p)
		check(t, "Windows", []int64{c.x, c.p}, got, ok, c.want, c.ok)
	}
}

func TestWindowsAtEdges(t *testing.T) {
	for _, x := range edges {
		for _, p := range edges {
			got, ok := Windows(x, p)
			if !within(x, 0, top) || !within(p, 1, wide) {
				check(t, "Windows", []int64{x, p}, got, ok, 0, false)
				continue
			}
			used := new(big.Int).Mul(big.NewInt(got), big.NewInt(p))
			rest := used.Sub(big.NewInt(x), used)
			if !ok || rest.Sign() < 0 || rest.Cmp(big.NewInt(p)) >= 0 {
				t.Errorf("P1.1: Windows(%d, %d): %d, %v leaves %v", x, p, got, ok, rest)
			}
		}
	}
}

func TestUpByHand(t *testing.T) {
	for _, c := range []struct {
		t, d, p, want int64
		ok            bool
	}{
		{10, 3, 4, 11, true},
		{11, 3, 4, 15, true},
		{10, 11, 4, 11, true},
		{3, 3, 1, 4, true},
		{0, 0, wide, wide, true},
		{0, 99, 7, 99, true}, // d itself is the least, however far above t
		{0, top, wide, top, true},
		{top - 1, 0, 1, top, true},
		{top - 1, top, 5, top, true},
		{top - wide, top - wide, wide, top, true},
		{top - wide + 1, top - wide + 1, wide, 0, false},
		{top, 0, 1, 0, false},
		{top, top, wide, 0, false},
		{-1, 3, 4, 0, false},
		{top + 1, 3, 4, 0, false},
		{1, -3, 4, 0, false},
		{1, top + 1, 4, 0, false},
		{1, 3, 0, 0, false},
		{1, 3, -4, 0, false},
		{1, 3, wide + 1, 0, false},
		{1, 9, 0, 0, false}, // a wrong p is refused even where d alone would do
	} {
		got, ok := Up(c.t, c.d, c.p)
		check(t, "Up", []int64{c.t, c.d, c.p}, got, ok, c.want, c.ok)
	}
}

func TestUpOneByOne(t *testing.T) {
	for now := int64(0); now <= 30; now++ {
		for d := int64(0); d <= 30; d++ {
			for p := int64(1); p <= 30; p++ {
				want := d
				for want <= now {
					want += p
				}
				got, ok := Up(now, d, p)
				check(t, "Up", []int64{now, d, p}, got, ok, want, true)
			}
		}
	}
}

// upBig reckons Up from its words in numbers of any size.
func upBig(now, d, p int64) (int64, bool) {
	if !within(now, 0, top) || !within(d, 0, top) || !within(p, 1, wide) {
		return 0, false
	}
	if d > now {
		return d, true
	}
	n := new(big.Int).Sub(big.NewInt(now), big.NewInt(d))
	n.Div(n, big.NewInt(p))
	n.Add(n, big.NewInt(1))
	n.Mul(n, big.NewInt(p))
	return exactly(true, n.Add(n, big.NewInt(d)))
}

func TestUpAtEdges(t *testing.T) {
	for _, now := range edges {
		for _, d := range edges {
			for _, p := range edges {
				got, ok := Up(now, d, p)
				want, wantOK := upBig(now, d, p)
				check(t, "Up", []int64{now, d, p}, got, ok, want, wantOK)
			}
		}
	}
}
