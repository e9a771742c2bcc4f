package robin

import (
	"math"
	"slices"
	"testing"

	"beadle/api"
)

// greatest is 2^40, to which times is held.
const greatest = 1 << 40

// up is n ids from id on.
func up(n, id int) []int {
	var l []int
	for i := range n {
		l = append(l, id+i)
	}
	return l
}

// made is a robin with room for most and these in it, put in in their order.
func made(t *testing.T, most int, ids ...int) *Robin {
	t.Helper()
	r := New(most)
	for _, id := range ids {
		adds(t, r, id, api.OK)
	}
	return r
}

func adds(t *testing.T, r *Robin, id int, want api.Errno) {
	t.Helper()
	if got := r.Add(id); got != want {
		t.Errorf("P17.1: Add(%d): %d, want %d", id, got, want)
	}
}

func drops(t *testing.T, r *Robin, id int, want api.Errno) {
	t.Helper()
	if got := r.Drop(id); got != want {
		t.Errorf("P17.1: Drop(%d): %d, want %d", id, got, want)
	}
}

func sees(t *testing.T, r *Robin, n int, want ...int) {
	t.Helper()
	if got := r.See(n); !slices.Equal(got, want) {
		t.Errorf("P17.1: See(%d): %v, want %v", n, got, want)
	}
}

func takes(t *testing.T, r *Robin, n int, want ...int) {
	t.Helper()
	if got := r.Take(n); !slices.Equal(got, want) {
		t.Errorf("P17.1: Take(%d): %v, want %v", n, got, want)
	}
}

func many(t *testing.T, r *Robin, n int, times int64, counts []int64, order []int) {
	t.Helper()
	if c, o := r.Many(n, times); !slices.Equal(c, counts) || !slices.Equal(o, order) {
		t.Errorf("P17.1: Many(%d, %d): %v, %v, want %v, %v", n, times, c, o, counts, order)
	}
	holds(t, r, order...)
}

// holds asks r, by each call that changes nothing, whether it is just what is wanted, in that order.
func holds(t *testing.T, r *Robin, want ...int) {
	t.Helper()
	if got := r.Len(); got != len(want) {
		t.Errorf("P17.1: Len: %d, want %d", got, len(want))
	}
	sees(t, r, len(want), want...)
	sees(t, r, math.MaxInt, want...)
}

// plain is a robin as the chapter says it, each step on its own.
type plain struct {
	most int
	row  []int
}

func plainNew(most int) *plain {
	switch {
	case most < 1:
		most = 1
	case most > 256:
		most = 256
	}
	return &plain{most: most}
}

func (p *plain) add(id int) api.Errno {
	if id < 0 {
		return api.EARG
	}
	for _, other := range p.row {
		if other == id {
			return api.EBUSY
		}
	}
	if len(p.row) == p.most {
		return api.EFULL
	}
	p.row = append(slices.Clone(p.row), id)
	return api.OK
}

func (p *plain) drop(id int) api.Errno {
	var left []int
	for _, other := range p.row {
		if other != id {
			left = append(left, other)
		}
	}
	if len(left) == len(p.row) {
		return api.EID
	}
	p.row = left
	return api.OK
}

func (p *plain) see(n int) []int {
	var l []int
	for i, id := range p.row {
		if i < n {
			l = append(l, id)
		}
	}
	return l
}

func (p *plain) take(n int) []int {
	l := p.see(n)
	p.row = append(slices.Clone(p.row[len(l):]), l...)
	return l
}

// many takes one by one till all stand as they stood ahead; from there on
// everything is as it was from the beginning on.
func (p *plain) many(n int, times int64) ([]int64, []int) {
	ahead := p.row
	counts := make([]int64, len(ahead))
	if times > greatest {
		times = greatest
	}
	takeOne := func() {
		for _, id := range p.take(n) {
			counts[slices.Index(ahead, id)]++
		}
	}
	for i := int64(1); i <= times; i++ {
		takeOne()
		if slices.Equal(p.row, ahead) {
			for j := range counts {
				counts[j] *= times / i
			}
			for range times % i {
				takeOne()
			}
			break
		}
	}
	return counts, p.row
}

func TestExample(t *testing.T) {
	r := made(t, 8, 1, 2, 3)
	takes(t, r, 2, 1, 2)
	sees(t, r, 1, 3)
	holds(t, r, 3, 1, 2)
}

func TestNew(t *testing.T) {
	for _, c := range []struct{ most, room int }{
		{math.MinInt, 1}, {-1 << 32, 1}, {-1<<32 + 5, 1}, {-256, 1}, {-1, 1}, {0, 1}, {1, 1}, {2, 2}, {3, 3}, {16, 16}, {255, 255}, {256, 256},
		{257, 256}, {512, 256}, {1 << 16, 256}, {1 << 32, 256}, {1<<32 + 1, 256}, {math.MaxInt - 1, 256}, {math.MaxInt, 256},
	} {
		r := New(c.most)
		holds(t, r)
		for id := range c.room {
			adds(t, r, id, api.OK)
		}
		for _, id := range []int{c.room, 1 << 32, math.MaxInt} {
			adds(t, r, id, api.EFULL)
		}
		holds(t, r, up(c.room, 0)...)
	}
}

func TestAdd(t *testing.T) {
	r := New(4)
	var want []int
	for _, id := range []int{7, 0, math.MaxInt} {
		for _, bad := range []int{-1, -2, -7, -1 << 32, math.MinInt} {
			adds(t, r, bad, api.EARG)
		}
		holds(t, r, want...)
		adds(t, r, id, api.OK)
		want = append(want, id)
		holds(t, r, want...)
		adds(t, r, id, api.EBUSY)
		adds(t, r, want[0], api.EBUSY)
		holds(t, r, want...)
	}
	adds(t, r, 7+1<<32, api.OK)
	adds(t, r, 1<<32, api.EFULL)
	holds(t, r, 7, 0, math.MaxInt, 7+1<<32)
}

// Where it is full, too, the first error that fits is told: EARG, then EBUSY, then EFULL.
func TestAddOfTooMany(t *testing.T) {
	for _, most := range []int{1, 2, 16, 256} {
		r := made(t, most, up(most, 0)...)
		for _, turned := range []int{0, 1, 3} {
			r.Take(turned)
			want := r.See(most)
			for _, id := range []int{-1, math.MinInt} {
				adds(t, r, id, api.EARG)
			}
			for _, id := range want {
				adds(t, r, id, api.EBUSY)
			}
			for _, id := range []int{most, most + 1, 1 << 32, math.MaxInt} {
				adds(t, r, id, api.EFULL)
			}
			holds(t, r, want...)
		}
	}
}

// The new one is last, however the others have turned.
func TestAddBehindTurns(t *testing.T) {
	r := made(t, 9, 5, 6, 7)
	takes(t, r, 1, 5)
	adds(t, r, 8, api.OK)
	holds(t, r, 6, 7, 5, 8)
	many(t, r, 3, 3, []int64{3, 2, 2, 2}, []int{7, 5, 8, 6})
	adds(t, r, 0, api.OK)
	holds(t, r, 7, 5, 8, 6, 0)
	takes(t, r, 5, 7, 5, 8, 6, 0)
	adds(t, r, 1, api.OK)
	holds(t, r, 7, 5, 8, 6, 0, 1)
	r.See(4)
	adds(t, r, 2, api.OK)
	holds(t, r, 7, 5, 8, 6, 0, 1, 2)
}

func TestDrop(t *testing.T) {
	for _, c := range []struct {
		ids  []int
		id   int
		want []int
		err  api.Errno
	}{
		{nil, 0, nil, api.EID},
		{nil, -1, nil, api.EID},
		{[]int{6}, 6, nil, api.OK},
		{[]int{6}, 0, []int{6}, api.EID},
		{[]int{0}, 0, nil, api.OK},
		{[]int{4, 2, 9}, 4, []int{2, 9}, api.OK},
		{[]int{4, 2, 9}, 2, []int{4, 9}, api.OK},
		{[]int{4, 2, 9}, 9, []int{4, 2}, api.OK},
		{[]int{4, 2, 9}, 0, []int{4, 2, 9}, api.EID},
		{[]int{4, 2, 9}, 3, []int{4, 2, 9}, api.EID},
		{[]int{4, 2, 9}, 4 + 1<<32, []int{4, 2, 9}, api.EID},
		{[]int{4, 2, 9}, -1, []int{4, 2, 9}, api.EID},
		{[]int{4, 2, 9}, -4, []int{4, 2, 9}, api.EID},
		{[]int{4, 2, 9}, math.MinInt, []int{4, 2, 9}, api.EID},
		{[]int{4, 2, 9}, math.MaxInt, []int{4, 2, 9}, api.EID},
		{[]int{4, math.MaxInt, 9, 0}, math.MaxInt, []int{4, 9, 0}, api.OK},
		{[]int{4, math.MaxInt, 9, 0}, 0, []int{4, math.MaxInt, 9}, api.OK},
	} {
		r := made(t, 8, c.ids...)
		drops(t, r, c.id, c.err)
		holds(t, r, c.want...)
		drops(t, r, c.id, api.EID)
		holds(t, r, c.want...)
	}
}

func TestRoomBehindDrop(t *testing.T) {
	r := made(t, 3, 1, 2, 3)
	for _, id := range []int{4, 0, -1} {
		drops(t, r, id, api.EID)
	}
	adds(t, r, 4, api.EFULL)
	drops(t, r, 2, api.OK)
	adds(t, r, 4, api.OK)
	adds(t, r, 2, api.EFULL)
	holds(t, r, 1, 3, 4)
	takes(t, r, 2, 1, 3)
	drops(t, r, 4, api.OK)
	adds(t, r, 4, api.OK)
	holds(t, r, 1, 3, 4)
	for _, id := range []int{3, 1, 4} {
		drops(t, r, id, api.OK)
	}
	holds(t, r)
	for _, id := range []int{4, 1, 3} {
		adds(t, r, id, api.OK)
	}
	adds(t, r, 9, api.EFULL)
	holds(t, r, 4, 1, 3)
}

// Who is dropped takes no turn, and those left keep theirs.
func TestDropBehindTurns(t *testing.T) {
	r := made(t, 5, 1, 2, 3, 4, 5)
	takes(t, r, 2, 1, 2)
	drops(t, r, 3, api.OK)
	holds(t, r, 4, 5, 1, 2)
	many(t, r, 3, 1, []int64{1, 1, 1, 0}, []int{2, 4, 5, 1})
	drops(t, r, 1, api.OK)
	drops(t, r, 4, api.OK)
	holds(t, r, 2, 5)
	takes(t, r, 3, 2, 5)
	takes(t, r, 1, 2)
	holds(t, r, 5, 2)
}

func TestSee(t *testing.T) {
	r := made(t, 8, 5, 9, 0, 7)
	for range 2 {
		for _, n := range []int{math.MinInt, -1 << 32, -1<<32 + 2, -4, -1, 0} {
			sees(t, r, n)
		}
		sees(t, r, 1, 5)
		sees(t, r, 2, 5, 9)
		sees(t, r, 3, 5, 9, 0)
		for _, n := range []int{4, 5, 8, 256, 257, 1 << 32, 1<<32 + 1, math.MaxInt} {
			sees(t, r, n, 5, 9, 0, 7)
		}
	}
	takes(t, r, 1, 5)
}

func TestTake(t *testing.T) {
	for _, c := range []struct {
		n           int
		want, stand []int
	}{
		{math.MinInt, nil, []int{5, 9, 0, 7}},
		{-1<<32 + 1, nil, []int{5, 9, 0, 7}},
		{-1, nil, []int{5, 9, 0, 7}},
		{0, nil, []int{5, 9, 0, 7}},
		{1, []int{5}, []int{9, 0, 7, 5}},
		{2, []int{5, 9}, []int{0, 7, 5, 9}},
		{3, []int{5, 9, 0}, []int{7, 5, 9, 0}},
		{4, []int{5, 9, 0, 7}, []int{5, 9, 0, 7}},
		{5, []int{5, 9, 0, 7}, []int{5, 9, 0, 7}},
		{6, []int{5, 9, 0, 7}, []int{5, 9, 0, 7}},
		{1 << 32, []int{5, 9, 0, 7}, []int{5, 9, 0, 7}},
		{1<<32 + 1, []int{5, 9, 0, 7}, []int{5, 9, 0, 7}},
		{math.MaxInt, []int{5, 9, 0, 7}, []int{5, 9, 0, 7}},
	} {
		r := made(t, 6, 5, 9, 0, 7)
		takes(t, r, c.n, c.want...)
		holds(t, r, c.stand...)
	}
}

func TestTakeAgain(t *testing.T) {
	r := made(t, 4, 5, 9, 0, 7)
	takes(t, r, 3, 5, 9, 0)
	takes(t, r, 3, 7, 5, 9)
	takes(t, r, 0)
	takes(t, r, 1, 0)
	takes(t, r, 4, 7, 5, 9, 0)
	takes(t, r, 2, 7, 5)
	takes(t, r, -1)
	takes(t, r, 2, 9, 0)
	holds(t, r, 7, 5, 9, 0)
	adds(t, r, 3, api.EFULL)
}

func TestOfNone(t *testing.T) {
	left := made(t, 3, 4)
	drops(t, left, 4, api.OK)
	for _, r := range []*Robin{New(3), left} {
		for _, n := range []int{math.MinInt, -1, 0, 1, 2, 256, math.MaxInt} {
			sees(t, r, n)
			takes(t, r, n)
			for _, times := range []int64{math.MinInt64, -1, 0, 1, 5, greatest, math.MaxInt64} {
				many(t, r, n, times, nil, nil)
			}
		}
		adds(t, r, 6, api.OK)
		holds(t, r, 6)
	}
}

// One alone is taken each time, and stays where it is.
func TestOfOne(t *testing.T) {
	r := made(t, 1, 6)
	sees(t, r, 1, 6)
	takes(t, r, 1, 6)
	takes(t, r, 2, 6)
	many(t, r, 1, 5, []int64{5}, []int{6})
	many(t, r, math.MaxInt, math.MaxInt64, []int64{greatest}, []int{6})
}

func TestMany(t *testing.T) {
	for _, c := range []struct {
		n      int
		times  int64
		counts []int64
		order  []int
	}{
		{math.MinInt, 5, []int64{0, 0, 0}, []int{5, 9, 0}},
		{-1<<32 + 1, 5, []int64{0, 0, 0}, []int{5, 9, 0}},
		{-1, 5, []int64{0, 0, 0}, []int{5, 9, 0}},
		{0, 5, []int64{0, 0, 0}, []int{5, 9, 0}},
		{0, math.MaxInt64, []int64{0, 0, 0}, []int{5, 9, 0}},
		{1, math.MinInt64, []int64{0, 0, 0}, []int{5, 9, 0}},
		{2, -1<<32 + 1, []int64{0, 0, 0}, []int{5, 9, 0}},
		{2, -1, []int64{0, 0, 0}, []int{5, 9, 0}},
		{-1, -1, []int64{0, 0, 0}, []int{5, 9, 0}},
		{math.MinInt, math.MinInt64, []int64{0, 0, 0}, []int{5, 9, 0}},
		{2, 0, []int64{0, 0, 0}, []int{5, 9, 0}},
		{1, 1, []int64{1, 0, 0}, []int{9, 0, 5}},
		{1, 2, []int64{1, 1, 0}, []int{0, 5, 9}},
		{1, 3, []int64{1, 1, 1}, []int{5, 9, 0}},
		{1, 4, []int64{2, 1, 1}, []int{9, 0, 5}},
		{2, 1, []int64{1, 1, 0}, []int{0, 5, 9}},
		{2, 2, []int64{2, 1, 1}, []int{9, 0, 5}},
		{2, 3, []int64{2, 2, 2}, []int{5, 9, 0}},
		{2, 4, []int64{3, 3, 2}, []int{0, 5, 9}},
		{3, 1, []int64{1, 1, 1}, []int{5, 9, 0}},
		{3, 4, []int64{4, 4, 4}, []int{5, 9, 0}},
		{4, 1, []int64{1, 1, 1}, []int{5, 9, 0}},
		{4, 4, []int64{4, 4, 4}, []int{5, 9, 0}},
		{1<<32 + 1, 2, []int64{2, 2, 2}, []int{5, 9, 0}},
		{math.MaxInt, 4, []int64{4, 4, 4}, []int{5, 9, 0}},
		{1, 1 << 31, []int64{715827883, 715827883, 715827882}, []int{0, 5, 9}},
		{2, 1 << 32, []int64{2863311531, 2863311531, 2863311530}, []int{0, 5, 9}},
		{1, greatest - 1, []int64{366503875925, 366503875925, 366503875925}, []int{5, 9, 0}},
		{1, greatest, []int64{366503875926, 366503875925, 366503875925}, []int{9, 0, 5}},
		{2, greatest, []int64{733007751851, 733007751851, 733007751850}, []int{0, 5, 9}},
		{3, greatest, []int64{greatest, greatest, greatest}, []int{5, 9, 0}},
		{2, greatest + 1, []int64{733007751851, 733007751851, 733007751850}, []int{0, 5, 9}},
		{2, 2 * greatest, []int64{733007751851, 733007751851, 733007751850}, []int{0, 5, 9}},
		{1, 1 << 62, []int64{366503875926, 366503875925, 366503875925}, []int{9, 0, 5}},
		{1, math.MaxInt64, []int64{366503875926, 366503875925, 366503875925}, []int{9, 0, 5}},
		{3, math.MaxInt64, []int64{greatest, greatest, greatest}, []int{5, 9, 0}},
		{math.MaxInt, math.MaxInt64, []int64{greatest, greatest, greatest}, []int{5, 9, 0}},
	} {
		many(t, made(t, 3, 5, 9, 0), c.n, c.times, c.counts, c.order)
	}
}

// The counts are told in the order in which they stood ahead, also where that
// is neither the order of their ids nor that in which they came.
func TestManyAgain(t *testing.T) {
	r := made(t, 4, 3, 8, 1, 6)
	many(t, r, 3, 1, []int64{1, 1, 1, 0}, []int{6, 3, 8, 1})
	many(t, r, 1, 2, []int64{1, 1, 0, 0}, []int{8, 1, 6, 3})
	many(t, r, 3, 3, []int64{3, 2, 2, 2}, []int{1, 6, 3, 8})
	many(t, r, 2, 1, []int64{1, 1, 0, 0}, []int{3, 8, 1, 6})
	takes(t, r, 1, 3)
	drops(t, r, 1, api.OK)
	many(t, r, 2, 2, []int64{2, 1, 1}, []int{6, 3, 8})
}

// At any times none is taken ahead of its turn: no two counts are further apart
// than by one, the greater ones are those that stood first, and in all there
// are as many as were asked for.
func TestManyAtGreatTimes(t *testing.T) {
	for _, size := range []int{1, 2, 3, 5, 16, 63, 64, 255, 256} {
		for _, n := range []int{1, 2, 3, size / 2, size - 1, size, size + 1, 300} {
			for _, times := range []int64{1 << 24, 1<<31 - 1, 1 << 31, 1<<32 + 1, 1<<33 - 1, greatest - 1, greatest, greatest + 1, math.MaxInt64} {
				r := made(t, 256, up(size, 10)...)
				counts, order := r.Many(n, times)
				if len(counts) != size {
					t.Fatalf("P17.1: Many of %d: %d counts", size, len(counts))
				}
				sum := int64(0)
				for _, c := range counts {
					sum += c
				}
				all := int64(min(n, size)) * min(times, greatest)
				if sum != all {
					t.Errorf("P17.1: Many(%d, %d) of %d: %d in all, want %d", n, times, size, sum, all)
				}
				if counts[0] != (all+int64(size)-1)/int64(size) || counts[size-1] != all/int64(size) {
					t.Errorf("P17.1: Many(%d, %d) of %d: from %d to %d", n, times, size, counts[0], counts[size-1])
				}
				if !slices.IsSortedFunc(counts, func(a, b int64) int { return int(b - a) }) {
					t.Errorf("P17.1: Many(%d, %d) of %d: %v", n, times, size, counts)
				}
				first := slices.Index(counts, counts[size-1])
				want := append(up(size, 10)[first:], up(size, 10)[:first]...)
				if !slices.Equal(order, want) {
					t.Errorf("P17.1: Many(%d, %d) of %d: order %v, want %v", n, times, size, order, want)
				}
				holds(t, r, want...)
			}
		}
	}
}

func TestLen(t *testing.T) {
	r := New(3)
	for i, c := range []struct {
		do   func()
		want int
	}{
		{func() {}, 0},
		{func() { r.Add(-1) }, 0},
		{func() { r.Add(4) }, 1},
		{func() { r.Add(4) }, 1},
		{func() { r.Add(5) }, 2},
		{func() { r.Take(1) }, 2},
		{func() { r.Add(6) }, 3},
		{func() { r.Add(7) }, 3},
		{func() { r.See(2) }, 3},
		{func() { r.Many(2, 7) }, 3},
		{func() { r.Drop(7) }, 3},
		{func() { r.Drop(5) }, 2},
		{func() { r.Take(9) }, 2},
		{func() { r.Drop(4) }, 1},
		{func() { r.Drop(6) }, 0},
		{func() { r.Drop(6) }, 0},
	} {
		c.do()
		for range 2 {
			if got := r.Len(); got != c.want {
				t.Errorf("P17.1: behind step %d: Len: %d, want %d", i, got, c.want)
			}
		}
	}
}

// Every call may come before and behind every other one, so no list that one
// answers may be the robin's own, or another's, spare room too.
func TestNewMemory(t *testing.T) {
	for n := range 6 {
		r := made(t, 8, 1, 2, 3, 4)
		drops(t, r, 4, api.OK)
		stand := []int{1, 2, 3}
		spoil := func(what string, l []int) {
			t.Helper()
			for i := range l[:cap(l)] {
				l[:cap(l)][i] = 99
			}
			if got := r.See(9); !slices.Equal(got, stand) {
				t.Fatalf("R4: an answer of %s(%d) was written over: %v, want %v", what, n, got, stand)
			}
		}
		turned := func(by int) {
			by %= len(stand)
			stand = append(slices.Clone(stand[by:]), stand[:by]...)
		}
		spoil("See", r.See(n))
		taken := r.Take(n)
		turned(min(n, 3))
		spoil("Take", taken)
		counts, order := r.Many(n, 2)
		turned(2 * min(n, 3))
		seen := r.See(9)
		for i := range counts[:cap(counts)] {
			counts[:cap(counts)][i] = 77
		}
		if !slices.Equal(order, stand) {
			t.Errorf("R4: the counts of Many(%d) share with its order: %v", n, order)
		}
		spoil("Many", order)
		if !slices.Equal(seen, stand) {
			t.Errorf("R4: an answer of See shares with one of Many(%d): %v", n, seen)
		}
		kept := r.See(9)
		r.Take(1)
		adds(t, r, 7, api.OK)
		drops(t, r, stand[1], api.OK)
		if !slices.Equal(kept, stand) {
			t.Errorf("R4: an answer of See has changed: %v, want %v", kept, stand)
		}
	}
}

// What stands behind an answer is nobody else's: who makes it longer changes
// nothing, and what is put in later does not come there.
func TestLongerAnswers(t *testing.T) {
	r := made(t, 6, 1, 2, 3)
	drops(t, r, 3, api.OK)
	seen := append(r.See(2), 91)
	taken := append(r.Take(1), 92)
	_, order := r.Many(1, 1)
	order = append(order, 93)
	holds(t, r, 1, 2)
	adds(t, r, 4, api.OK)
	if seen[2] != 91 || taken[1] != 92 || order[2] != 93 {
		t.Errorf("R4: Add changes what stands behind an answer: %v, %v, %v", seen, taken, order)
	}
	holds(t, r, 1, 2, 4)
}

func TestRobinsAreApart(t *testing.T) {
	a, b := made(t, 3, 1, 2, 3), made(t, 2, 1)
	takes(t, a, 1, 1)
	adds(t, b, 3, api.OK)
	holds(t, a, 2, 3, 1)
	holds(t, b, 1, 3)
	many(t, b, 1, 3, []int64{2, 1}, []int{3, 1})
	drops(t, b, 3, api.OK)
	holds(t, a, 2, 3, 1)
	adds(t, a, 4, api.EFULL)
	adds(t, b, 4, api.OK)
	drops(t, a, 4, api.EID)
	holds(t, b, 1, 4)
}

// same does one and the same with a robin and with the plain one.
func same(t *testing.T, r *Robin, p *plain, n int, times int64) {
	t.Helper()
	counts, order := p.many(n, times)
	many(t, r, n, times, counts, order)
}

// All rings of up to seven, all small n and times, against so many Takes.
func TestManyOfSmall(t *testing.T) {
	for size := range 8 {
		for n := -1; n <= size+1; n++ {
			for times := int64(-1); times <= 16; times++ {
				r, one := made(t, 8, up(size, 3)...), made(t, 8, up(size, 3)...)
				p := &plain{most: 8, row: up(size, 3)}
				want := make([]int64, size)
				for range max(times, 0) {
					for _, id := range one.Take(n) {
						want[id-3]++
					}
				}
				many(t, r, n, times, want, one.See(size))
				if counts, order := p.many(n, times); !slices.Equal(counts, want) || !slices.Equal(order, one.See(size)) {
					t.Errorf("the plain reckoning of %d, %d: %v, %v, want %v", n, times, counts, order, want)
				}
			}
		}
	}
}

// lots is a row of numbers that look like any.
type lots uint64

func (l *lots) below(n int) int {
	*l = *l*6364136223846793005 + 1442695040888963407
	return int(uint64(*l) >> 33 % uint64(n))
}

// one is an id of those below wide, and now and then one that may not be.
func (l *lots) one(wide int) int {
	if l.below(20) == 0 {
		return []int{-1, -2, math.MinInt, math.MaxInt, 1 << 32}[l.below(5)]
	}
	return l.below(wide)
}

// some is an n about as great as size.
func (l *lots) some(size int) int {
	if l.below(20) == 0 {
		return []int{math.MinInt, -1<<32 + 1, 1<<32 + 1, math.MaxInt}[l.below(4)]
	}
	return l.below(size+3) - 1
}

// often is how many times, of any size.
func (l *lots) often() int64 {
	if l.below(20) == 0 {
		return []int64{math.MinInt64, -1, greatest, greatest + 1, math.MaxInt64}[l.below(5)]
	}
	return (int64(l.below(1<<31))<<10 + int64(l.below(1<<10))) >> l.below(42)
}

// step does one step by lot with both, and tells its kind.
func step(t *testing.T, l *lots, r *Robin, p *plain, wide int) string {
	t.Helper()
	switch l.below(8) {
	case 0, 1, 2:
		id := l.one(wide)
		want := p.add(id)
		adds(t, r, id, want)
		return []string{api.OK: "added", api.EARG: "refused by EARG", api.EBUSY: "refused by EBUSY", api.EFULL: "refused by EFULL"}[want]
	case 3:
		id := l.one(wide)
		want := p.drop(id)
		drops(t, r, id, want)
		return []string{api.OK: "dropped", api.EID: "refused by EID"}[want]
	case 4:
		n := l.some(len(p.row))
		sees(t, r, n, p.see(n)...)
		return "seen"
	case 5, 6:
		n := l.some(len(p.row))
		takes(t, r, n, p.take(n)...)
		return "taken"
	}
	same(t, r, p, l.some(len(p.row)), l.often())
	return "taken many times"
}

func TestByLot(t *testing.T) {
	l := lots(17)
	kinds := map[string]int{}
	for _, most := range []int{-1, 0, 1, 2, 3, 4, 7, 16, 17, 64, 300} {
		r, p := New(most), plainNew(most)
		for range 1500 {
			kinds[step(t, &l, r, p, min(p.most+1+p.most/4, 80))]++
			if t.Failed() {
				t.Fatalf("room for %d", most)
			}
			holds(t, r, p.row...)
		}
	}
	for _, what := range []string{"added", "refused by EARG", "refused by EBUSY", "refused by EFULL", "dropped", "refused by EID", "seen", "taken", "taken many times"} {
		if kinds[what] < 100 {
			t.Errorf("the lot held %d %s", kinds[what], what)
		}
	}
}
