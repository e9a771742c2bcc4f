package mask

import (
	"math"
	"slices"
	"strconv"
	"strings"
	"testing"
)

const all = Mask(math.MaxUint64)

// asked are numbers of every kind: each that may be in a set, those beside them, those that a word's or an
// int's width would let wrap round to one that may be, and the least and the greatest that there are.
func asked() []int {
	l := []int{math.MinInt, math.MinInt + 1, -1 << 62, -1 << 40, -1 << 32, -1<<32 + 5, -257, -256, -192, -129, -128, -65, -64, -63, -59, -2, -1}
	for i := range 66 {
		l = append(l, i)
	}
	return append(l, 69, 99, 127, 128, 191, 255, 256, 261, 1<<16, 1<<31-1, 1<<31, 1<<32, 1<<32+5, 1<<40, 1<<62, math.MaxInt-1, math.MaxInt)
}

// wrong are those of asked that are in no set.
func wrong() []int {
	return slices.DeleteFunc(asked(), func(i int) bool { return 0 <= i && i <= 63 })
}

// sets are those that chapter 3's edges are made of, and some in between.
func sets() []Mask {
	l := []Mask{
		0, 1, 1 << 63, 1<<63 | 1, 3, 3 << 62, 7 << 61, 0b100111, all, all - 1, all >> 1, all &^ (all >> 32), all >> 32,
		0x5555555555555555, 0xaaaaaaaaaaaaaaaa, 0x0ff00ff00ff00ff0, 0xf00ff00ff00ff00f, 0x8000000180000001, 1<<2 | 1<<5 | 1<<63,
	}
	for i := range 64 {
		l = append(l, 1<<i, all&^(1<<i))
	}
	m := Mask(1)
	for range 200 {
		m = m*6364136223846793005 + 1442695040888963407
		l = append(l, m, m&(m>>7), m|m<<3)
	}
	return l
}

// within tells bit by bit, without any call of the package, which numbers are in m.
func within(m Mask) [64]bool {
	var in [64]bool
	for i := range in {
		in[i] = m%2 == 1
		m /= 2
	}
	return in
}

// numbers are those of m, rising.
func numbers(m Mask) []int {
	var l []int
	for i, in := range within(m) {
		if in {
			l = append(l, i)
		}
	}
	return l
}

// from is the first of l, a rising list, that is no less than n.
func from(l []int, n int) (int, bool) {
	for _, i := range l {
		if i >= n {
			return i, true
		}
	}
	return 0, false
}

func TestOf(t *testing.T) {
	every := numbers(all)
	back := slices.Clone(every)
	slices.Reverse(back)
	for _, c := range []struct {
		l    []int
		want Mask
	}{
		{nil, 0},
		{[]int{}, 0},
		{[]int{0}, 1},
		{[]int{63}, 1 << 63},
		{[]int{0, 1, 2, 5}, 39},
		{[]int{5, 2, 1, 0}, 39},
		{[]int{63, 0, 63, 0}, 1<<63 | 1},
		{[]int{7, 7, 7}, 128},
		{every, all},
		{back, all},
		{[]int{-1}, 0},
		{[]int{64}, 0},
		{[]int{-64, -1, 64, 65, 128, 256, 1 << 32}, 0},
		{[]int{math.MinInt, math.MaxInt}, 0},
		{[]int{math.MinInt, 4, -1, 64, math.MaxInt, 6}, 80},
	} {
		given := append(slices.Clone(c.l), 77)[:len(c.l)]
		if got := Of(given...); got != c.want {
			t.Errorf("P3.1: Of(%v): %#x; want %#x", c.l, uint64(got), uint64(c.want))
		}
		if !slices.Equal(given, c.l) || given[:len(given)+1][len(given)] != 77 {
			t.Errorf("R4: Of(%v) has changed what it was given: %v", c.l, given)
		}
	}
	if got := Of(); got != 0 {
		t.Errorf("P3.1: Of(): %#x", uint64(got))
	}
	if got := Of(0, 1, 2, 5); got != 39 {
		t.Errorf("P3.1: Of(0, 1, 2, 5): %#x", uint64(got))
	}
}

func TestOfEachSet(t *testing.T) {
	for _, m := range sets() {
		if got := Of(numbers(m)...); got != m {
			t.Errorf("P3.1: Of(%v): %#x; want %#x", numbers(m), uint64(got), uint64(m))
		}
		if got := Of(append(wrong(), numbers(m)...)...); got != m {
			t.Errorf("P3.1: Of(%v) with wrong ones ahead: %#x; want %#x", numbers(m), uint64(got), uint64(m))
		}
	}
}

func TestHasWithWithout(t *testing.T) {
	for _, m := range sets() {
		in := within(m)
		for _, i := range asked() {
			has, with, without := false, m, m
			if 0 <= i && i <= 63 {
				has = in[i]
				if has {
					without -= 1 << i
				} else {
					with += 1 << i
				}
			}
			if got := m.Has(i); got != has {
				t.Errorf("P3.1: %#x: Has(%d): %v", uint64(m), i, got)
			}
			if got := m.With(i); got != with {
				t.Errorf("P3.1: %#x: With(%d): %#x; want %#x", uint64(m), i, uint64(got), uint64(with))
			}
			if got := m.Without(i); got != without {
				t.Errorf("P3.1: %#x: Without(%d): %#x; want %#x", uint64(m), i, uint64(got), uint64(without))
			}
		}
	}
}

func TestHasWithWithoutByHand(t *testing.T) {
	m := Mask(0b100111)
	for i, want := range map[int]bool{0: true, 1: true, 2: true, 3: false, 5: true, 6: false, 63: false, 64: false, -1: false, -59: false, 69: false, math.MinInt: false, math.MaxInt: false} {
		if m.Has(i) != want {
			t.Errorf("P3.1: Has(%d): %v", i, !want)
		}
	}
	for i, want := range map[int]Mask{0: 39, 3: 47, 63: 1<<63 | 39, 64: 39, -1: 39, math.MinInt: 39, math.MaxInt: 39} {
		if got := m.With(i); got != want {
			t.Errorf("P3.1: With(%d): %#x", i, uint64(got))
		}
	}
	for i, want := range map[int]Mask{0: 38, 5: 7, 3: 39, 63: 39, 64: 39, -1: 39, math.MinInt: 39, math.MaxInt: 39} {
		if got := m.Without(i); got != want {
			t.Errorf("P3.1: Without(%d): %#x", i, uint64(got))
		}
	}
	if got := all.Without(63); got != all>>1 {
		t.Errorf("P3.1: Without(63) of all: %#x", uint64(got))
	}
	if m != 0b100111 {
		t.Errorf("P3.1: a set was changed: %#x", uint64(m))
	}
}

func TestLenAndList(t *testing.T) {
	for m, want := range map[Mask]int{0: 0, 1: 1, 1 << 63: 1, 39: 4, all: 64, all >> 1: 63, all - 1: 63} {
		if got := m.Len(); got != want {
			t.Errorf("P3.1: %#x: Len: %d; want %d", uint64(m), got, want)
		}
	}
	for _, m := range sets() {
		want := numbers(m)
		if got := m.Len(); got != len(want) {
			t.Errorf("P3.1: %#x: Len: %d; want %d", uint64(m), got, len(want))
		}
		if got := m.List(); !slices.Equal(got, want) {
			t.Errorf("P3.1: %#x: List: %v; want %v", uint64(m), got, want)
		}
	}
	if got := Mask(1<<63 | 39).List(); !slices.Equal(got, []int{0, 1, 2, 5, 63}) {
		t.Errorf("P3.1: List: %v", got)
	}
	if got := Mask(0).List(); len(got) != 0 {
		t.Errorf("P3.1: List of none: %v", got)
	}
}

func TestListIsNewMemory(t *testing.T) {
	m := Mask(39)
	first, second := m.List(), m.List()
	room := first[:cap(first)]
	for i := range room {
		room[i] = 99
	}
	if third := m.List(); !slices.Equal(second, []int{0, 1, 2, 5}) || !slices.Equal(third, second) {
		t.Errorf("R4: List: %v, %v", second, third)
	}
}

func TestFirstAndAround(t *testing.T) {
	for _, m := range sets() {
		l := numbers(m)
		for _, n := range asked() {
			want, ok := from(l, n)
			if got, there := m.First(n); got != want || there != ok {
				t.Errorf("P3.1: %#x: First(%d): %d, %v; want %d, %v", uint64(m), n, got, there, want, ok)
			}
			if !ok && len(l) > 0 {
				want, ok = l[0], true
			}
			if got, there := m.Around(n); got != want || there != ok {
				t.Errorf("P3.1: %#x: Around(%d): %d, %v; want %d, %v", uint64(m), n, got, there, want, ok)
			}
		}
	}
}

func TestFirstAndAroundByHand(t *testing.T) {
	m := Mask(1<<3 | 1<<10 | 1<<40)
	for _, c := range []struct {
		m             Mask
		from          int
		first         int
		ok            bool
		around        int
		aroundIsThere bool
	}{
		{m, 0, 3, true, 3, true},
		{m, 3, 3, true, 3, true},
		{m, 4, 10, true, 10, true},
		{m, 40, 40, true, 40, true},
		{m, 41, 0, false, 3, true}, // nothing is left from there on
		{m, 63, 0, false, 3, true},
		{m, 64, 0, false, 3, true},
		{m, math.MaxInt, 0, false, 3, true},
		{m, -1, 3, true, 3, true},
		{m, math.MinInt, 3, true, 3, true},
		{1, 0, 0, true, 0, true},
		{1, 1, 0, false, 0, true}, // 0 is found round, and not from there on
		{1 << 63, 63, 63, true, 63, true},
		{1 << 63, 64, 0, false, 63, true},
		{all, 63, 63, true, 63, true},
		{all, 64, 0, false, 0, true},
		{0, 0, 0, false, 0, false},
		{0, 63, 0, false, 0, false},
		{0, math.MinInt, 0, false, 0, false},
		{0, math.MaxInt, 0, false, 0, false},
	} {
		if got, ok := c.m.First(c.from); got != c.first || ok != c.ok {
			t.Errorf("P3.1: %#x: First(%d): %d, %v", uint64(c.m), c.from, got, ok)
		}
		if got, ok := c.m.Around(c.from); got != c.around || ok != c.aroundIsThere {
			t.Errorf("P3.1: %#x: Around(%d): %d, %v", uint64(c.m), c.from, got, ok)
		}
	}
}

func TestNthAndRank(t *testing.T) {
	for _, m := range sets() {
		l := numbers(m)
		for _, n := range asked() {
			nth, ok, rank := 0, 0 <= n && n < len(l), 0
			if ok {
				nth = l[n]
			}
			for _, i := range l {
				if i < n {
					rank++
				}
			}
			if got, there := m.Nth(n); got != nth || there != ok {
				t.Errorf("P3.1: %#x: Nth(%d): %d, %v; want %d, %v", uint64(m), n, got, there, nth, ok)
			}
			if got := m.Rank(n); got != rank {
				t.Errorf("P3.1: %#x: Rank(%d): %d; want %d", uint64(m), n, got, rank)
			}
		}
	}
}

func TestNthAndRankByHand(t *testing.T) {
	m := Mask(1<<63 | 39)
	for _, c := range []struct {
		m    Mask
		n    int
		nth  int
		ok   bool
		rank int
	}{
		{m, 0, 0, true, 0},
		{m, 3, 5, true, 3},
		{m, 4, 63, true, 3}, // the last
		{m, 5, 0, false, 3}, // past it
		{m, 6, 0, false, 4},
		{m, 63, 0, false, 4},
		{m, 64, 0, false, 5},
		{m, math.MaxInt, 0, false, 5},
		{m, -1, 0, false, 0},
		{m, math.MinInt, 0, false, 0},
		{all, 63, 63, true, 63},
		{all, 64, 0, false, 64},
		{all, 65, 0, false, 64},
		{0, 0, 0, false, 0},
		{0, 64, 0, false, 0},
	} {
		if got, ok := c.m.Nth(c.n); got != c.nth || ok != c.ok {
			t.Errorf("P3.1: %#x: Nth(%d): %d, %v", uint64(c.m), c.n, got, ok)
		}
		if got := c.m.Rank(c.n); got != c.rank {
			t.Errorf("P3.1: %#x: Rank(%d): %d", uint64(c.m), c.n, got)
		}
	}
}

func TestFull(t *testing.T) {
	for _, n := range asked() {
		want := Mask(0)
		for i := 0; i < n && i < 64; i++ {
			want += 1 << i
		}
		if got := Full(n); got != want {
			t.Errorf("P3.1: Full(%d): %#x; want %#x", n, uint64(got), uint64(want))
		}
	}
	for n, want := range map[int]Mask{math.MinInt: 0, -1: 0, 0: 0, 1: 1, 5: 31, 63: all >> 1, 64: all, 65: all, 128: all, math.MaxInt: all} {
		if got := Full(n); got != want {
			t.Errorf("P3.1: Full(%d): %#x; want %#x", n, uint64(got), uint64(want))
		}
	}
}

func TestStringByHand(t *testing.T) {
	for _, c := range []struct {
		m    Mask
		want string
	}{
		{0, "none"},
		{39, "0-2,5"},
		{1, "0"},
		{1 << 9, "9"},
		{1 << 10, "10"},
		{1 << 63, "63"},
		{3, "0-1"},
		{3 << 9, "9-10"},
		{3 << 62, "62-63"},
		{7 << 61, "61-63"},
		{3<<62 | 1, "0,62-63"},
		{1<<63 | 1, "0,63"},
		{1<<63 | 1<<61 | 3, "0-1,61,63"},
		{5, "0,2"},
		{all, "0-63"},
		{all >> 1, "0-62"},
		{all - 1, "1-63"},
		{all &^ (1 << 31), "0-30,32-63"},
	} {
		if got := c.m.String(); got != c.want {
			t.Errorf("P3.1: String of %#x: %q; want %q", uint64(c.m), got, c.want)
		}
	}
}

// spelt writes m one number after the other, each joined to the run that it carries on.
func spelt(m Mask) string {
	in := within(m)
	var runs []string
	for first := 0; first < 64; first++ {
		if !in[first] {
			continue
		}
		last := first
		for last < 63 && in[last+1] {
			last++
		}
		run := strconv.Itoa(first)
		if last > first {
			run += "-" + strconv.Itoa(last)
		}
		runs = append(runs, run)
		first = last
	}
	if len(runs) == 0 {
		return "none"
	}
	return strings.Join(runs, ",")
}

func TestStringOfEachSet(t *testing.T) {
	for _, m := range sets() {
		if got, want := m.String(), spelt(m); got != want {
			t.Errorf("P3.1: String of %#x: %q; want %q", uint64(m), got, want)
		}
	}
	for first := range 64 {
		for last := first; last < 64; last++ {
			m := Mask(0)
			for i := first; i <= last; i++ {
				m += 1 << i
			}
			if got, want := m.String(), spelt(m); got != want {
				t.Errorf("P3.1: String of %#x: %q; want %q", uint64(m), got, want)
			}
		}
	}
}
