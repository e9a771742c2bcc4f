package cbs

import (
	"math"
	"math/big"
	"slices"
	"testing"

	"beadle/api"
)

const (
	most  = api.MaxPeriod // 2147483648
	top   = api.Horizon   // 4611686018427387904
	least = math.MinInt64
	great = math.MaxInt64
)

// of is a server of 4 in 10.
func of(budget, due int64, mode int) Server {
	return Server{Q: 4, P: 10, Budget: budget, Due: due, Mode: mode}
}

// pairs are some that a server may have, each with how much, and in how long.
var pairs = [][2]int64{{1, 1}, {1, 2}, {2, 2}, {2, 5}, {4, 10}, {5, 5}, {1, 7}, {1, most}, {2, most}, {most - 1, most}, {most, most}, {1, most - 1}, {most - 1, most - 1}, {most / 2, most}, {most/2 - 1, most - 1}, {1000003, 1 << 30}}

// noPairs are some that it may not.
var noPairs = [][2]int64{{0, 1}, {0, 5}, {-1, 5}, {-2, 5}, {least, 5}, {least + 1, 5}, {-1 << 32, 5}, {-1<<32 + 2, 5}, {6, 5}, {7, 5}, {2, 1}, {1<<32 + 2, 5}, {top, 5}, {great, 5}, {great - 1, great - 2},
	{0, 0}, {1, 0}, {1, -1}, {-1, -1}, {-2, -1}, {1, -5}, {-5, -5}, {least, least}, {1, least}, {great, least}, {least, great}, {0, most}, {-1, most}, {most + 1, most},
	{1, most + 1}, {2, most + 1}, {most, most + 1}, {most + 1, most + 1}, {1, most + 2}, {1, 1 << 32}, {1, 1<<32 + 5}, {2, 1<<32 + 5}, {1<<32 + 2, 1<<32 + 5}, {1, top}, {top, top}, {1, great}, {great, great}, {1, great - 1}}

// goodServers are some that are Good: with each pair at each Mode, at the edges of Budget and Due.
func goodServers() []Server {
	var some []Server
	for _, c := range pairs {
		q, p := c[0], c[1]
		for _, budget := range edges(0, 1, q/2, q-1, q) {
			for _, due := range edges(0, 1, 7, p-1, p, p+1, 1<<32+1, top-p, top-1, top) {
				for mode := range 3 {
					if mode != 1 || budget > 0 {
						some = append(some, Server{q, p, budget, due, mode})
					}
				}
			}
		}
	}
	return some
}

// edges is each of these once, rising.
func edges(some ...int64) []int64 {
	slices.Sort(some)
	return slices.Compact(some)
}

// wrongServers are some that are not Good, each by one thing alone.
func wrongServers() []Server {
	wrong := []Server{{}, {P: 5}, {Q: 5}, {Mode: 1}, {Budget: 1}, {Due: 1}}
	for _, c := range noPairs {
		wrong = append(wrong, Server{c[0], c[1], 0, 0, 0}, Server{c[0], c[1], 0, 9, 2}, Server{c[0], c[1], 1, 9, 1}, Server{c[0], c[1], c[0], 9, 1})
	}
	for _, c := range pairs {
		q, p := c[0], c[1]
		for mode := range 3 {
			for _, budget := range []int64{-1, -2, -q - 1, -1 << 32, -1<<32 + 1, least, least + 1, q + 1, q + 2, most + 1, 1 << 32, 1<<32 + 1, top, great} {
				wrong = append(wrong, Server{q, p, budget, 9, mode})
			}
			for _, due := range []int64{-1, -2, -p, -1 << 32, least, least + 1, top + 1, top + 2, top + p, great - 1, great} {
				wrong = append(wrong, Server{q, p, 1, due, mode})
			}
		}
		for _, mode := range []int{-1, -2, -256, -1 << 32, -1<<32 + 1, math.MinInt, 3, 4, 255, 256, 257, 1 << 32, 1<<32 + 1, math.MaxInt} {
			wrong = append(wrong, Server{q, p, 1, 9, mode}, Server{q, p, 0, 0, mode})
		}
		for _, due := range []int64{0, 9, top} {
			wrong = append(wrong, Server{q, p, 0, due, 1})
		}
	}
	return wrong
}

// nows are ticks, Good ones and others.
var nows = []int64{least, least + 1, -1 << 32, -2, -1, 0, 1, 9, most, 1 << 32, 1<<32 + 1, top - most - 1, top - most, top - 10, top - 1, top, top + 1, top + 2, great - 1, great}

func TestExample(t *testing.T) {
	s, e := New(2, 5)
	woken, f := Wake(s, 10)
	if e != api.OK || f != api.OK || woken != (Server{Q: 2, P: 5, Budget: 2, Due: 15, Mode: 1}) {
		t.Errorf("P12.1: New(2, 5), Wake at 10: %v, %d, %d, want Budget 2, Due 15", woken, e, f)
	}
}

func TestNew(t *testing.T) {
	for _, c := range pairs {
		if s, e := New(c[0], c[1]); e != api.OK || s != (Server{Q: c[0], P: c[1]}) || !Good(s) {
			t.Errorf("P12.1: New(%d, %d): %v, %d", c[0], c[1], s, e)
		}
	}
	for _, c := range noPairs {
		if s, e := New(c[0], c[1]); e != api.EARG || s != (Server{}) {
			t.Errorf("P12.1: New(%d, %d): %v, %d, want EARG", c[0], c[1], s, e)
		}
	}
}

func TestGood(t *testing.T) {
	for _, s := range goodServers() {
		if !Good(s) {
			t.Errorf("P12.1: Good of %v: false", s)
		}
	}
	for _, s := range wrongServers() {
		if Good(s) {
			t.Errorf("P12.1: Good of %v: true", s)
		}
	}
	for _, c := range []struct {
		s    Server
		want bool
	}{
		{of(0, 0, 0), true}, {of(0, 0, 2), true}, {of(0, 0, 1), false}, {of(1, 0, 1), true}, {of(4, 0, 1), true}, {of(5, 0, 1), false},
		{of(4, 0, 0), true}, {of(5, 0, 0), false}, {of(4, 0, 2), true}, {of(5, 0, 2), false}, {of(-1, 0, 0), false}, {of(-1, 0, 1), false}, {of(-1, 0, 2), false},
		{of(1, -1, 1), false}, {of(1, top, 1), true}, {of(1, top+1, 1), false}, {of(1, 5, -1), false}, {of(1, 5, 3), false},
	} {
		if got := Good(c.s); got != c.want {
			t.Errorf("P12.1: Good of %v: %v", c.s, got)
		}
	}
}

// Of what is not Good: EARG ahead of all, whatever else is wrong, and it as it is.
func TestNotGood(t *testing.T) {
	for _, s := range wrongServers() {
		for _, n := range nows {
			if a, e := Wake(s, n); e != api.EARG || a != s {
				t.Errorf("P12.1: Wake(%v, %d): %v, %d, want EARG", s, n, a, e)
			}
			if a, e := Use(s, n); e != api.EARG || a != s {
				t.Errorf("P12.1: Use(%v, %d): %v, %d, want EARG", s, n, a, e)
			}
			if a, ok := Turn(s, n); ok || a != s {
				t.Errorf("P12.1: Turn(%v, %d): %v, %v, want false", s, n, a, ok)
			}
		}
		if a, e := Idle(s); e != api.EARG || a != s {
			t.Errorf("P12.1: Idle of %v: %v, %d, want EARG", s, a, e)
		}
		if a, e := Wait(s); e != api.EARG || a != s {
			t.Errorf("P12.1: Wait of %v: %v, %d, want EARG", s, a, e)
		}
	}
}

// wakes holds that s, woken at now, is what is asked.
func wakes(t *testing.T, s Server, now int64, want Server, e api.Errno) {
	t.Helper()
	if got, f := Wake(s, now); got != want || f != e {
		t.Errorf("P12.1: Wake(%v, %d): %v, %d, want %v, %d", s, now, got, f, want, e)
	}
}

// Its Due is over, or is now: a window of its own from now on.
func TestWakeAfterItsDue(t *testing.T) {
	for _, budget := range []int64{0, 1, 3, 4} {
		wakes(t, of(budget, 0, 0), 0, of(4, 10, 1), api.OK)
		wakes(t, of(budget, 0, 0), 7, of(4, 17, 1), api.OK)
		wakes(t, of(budget, 10, 0), 10, of(4, 20, 1), api.OK)
		wakes(t, of(budget, 10, 0), 11, of(4, 21, 1), api.OK)
		wakes(t, of(budget, 10, 0), 99, of(4, 109, 1), api.OK)
		wakes(t, of(budget, 10, 0), top-11, of(4, top-1, 1), api.OK)
		wakes(t, of(budget, 10, 0), top-10, of(4, top, 1), api.OK)
		wakes(t, of(budget, top-10, 0), top-10, of(4, top, 1), api.OK)
		wakes(t, of(budget, 10, 0), top-9, of(budget, 10, 0), api.EOVER)
		wakes(t, of(budget, top-9, 0), top-9, of(budget, top-9, 0), api.EOVER)
		wakes(t, of(budget, 10, 0), top, of(budget, 10, 0), api.EOVER)
		wakes(t, of(budget, top, 0), top, of(budget, top, 0), api.EOVER)
	}
	wakes(t, Server{Q: most, P: most}, top-most, Server{most, most, most, top, 1}, api.OK)
	wakes(t, Server{Q: most, P: most}, top-most+1, Server{Q: most, P: most}, api.EOVER)
	wakes(t, Server{Q: 1, P: 1}, top-1, Server{1, 1, 1, top, 1}, api.OK)
	wakes(t, Server{Q: 1, P: 1}, top, Server{Q: 1, P: 1}, api.EOVER)
}

// Its Due is still to come: it keeps so much as does not run thicker than 4 in 10.
func TestWakeAheadOfItsDue(t *testing.T) {
	kept := func(budget, x int64) int64 {
		s, e := Wake(of(budget, 20, 0), 20-x)
		if e != api.OK || s.Due != 20 || s.Q != 4 || s.P != 10 || s.Mode != 1 && s.Mode != 2 || (s.Mode == 2) != (s.Budget == 0) {
			t.Errorf("P12.1: Wake with Budget %d, %d ahead of Due 20: %v, %d", budget, x, s, e)
		}
		return s.Budget
	}
	for _, c := range []struct{ budget, x, want int64 }{
		{0, 1, 0}, {0, 2, 0}, {0, 3, 0}, {0, 9, 0}, {0, 10, 0}, {0, 11, 0}, {0, 20, 0},
		{1, 1, 0}, {1, 2, 0}, {1, 3, 1}, {1, 4, 1}, {1, 10, 1}, {1, 11, 1}, {1, 20, 1},
		{2, 1, 0}, {2, 2, 0}, {2, 3, 1}, {2, 4, 1}, {2, 5, 2}, {2, 6, 2}, {2, 10, 2}, {2, 20, 2},
		{3, 1, 0}, {3, 2, 0}, {3, 3, 1}, {3, 5, 2}, {3, 7, 2}, {3, 8, 3}, {3, 9, 3}, {3, 20, 3},
		{4, 1, 0}, {4, 2, 0}, {4, 3, 1}, {4, 4, 1}, {4, 5, 2}, {4, 7, 2}, {4, 8, 3}, {4, 9, 3}, {4, 10, 4}, {4, 11, 4}, {4, 12, 4}, {4, 20, 4},
	} {
		if got := kept(c.budget, c.x); got != c.want {
			t.Errorf("P12.1: Wake with Budget %d, %d ahead of its Due: Budget %d, want %d", c.budget, c.x, got, c.want)
		}
	}
	// An x far above P counts as P, near the end of time too.
	wakes(t, of(4, top, 0), 0, of(4, top, 1), api.OK)
	wakes(t, of(1, top, 0), 0, of(1, top, 1), api.OK)
	wakes(t, of(0, top, 0), 0, of(0, top, 2), api.OK)
	wakes(t, of(4, 1<<32+5, 0), 5, of(4, 1<<32+5, 1), api.OK)
	wakes(t, of(4, 1<<32+6, 0), 5, of(4, 1<<32+6, 1), api.OK)
	wakes(t, of(4, top, 0), top-10, of(4, top, 1), api.OK)
	wakes(t, of(4, top, 0), top-9, of(3, top, 1), api.OK)
	wakes(t, of(4, top, 0), top-2, of(0, top, 2), api.OK)
	wakes(t, of(4, top, 0), top-1, of(0, top, 2), api.OK)
}

// Great ones, whose rates are close to each other.
func TestWakeOfGreatOnes(t *testing.T) {
	big := func(q, budget, due int64, mode int) Server { return Server{q, most, budget, due, mode} }
	wakes(t, big(most-1, most-1, most, 0), 0, big(most-1, most-1, most, 1), api.OK)
	wakes(t, big(most-1, most-1, most, 0), 1, big(most-1, most-2, most, 1), api.OK)
	wakes(t, big(most-1, most-2, most, 0), 1, big(most-1, most-2, most, 1), api.OK)
	wakes(t, big(most-1, 2, most, 0), most-2, big(most-1, 1, most, 1), api.OK)
	wakes(t, big(most-1, 1, most, 0), most-1, big(most-1, 0, most, 2), api.OK)
	wakes(t, big(most, most, most, 0), 1, big(most, most-1, most, 1), api.OK)
	wakes(t, big(most, most, most, 0), most-1, big(most, 1, most, 1), api.OK)
	wakes(t, big(1, 1, most, 0), 0, big(1, 1, most, 1), api.OK)
	wakes(t, big(1, 1, most, 0), 1, big(1, 0, most, 2), api.OK)
	wakes(t, big(most, most, top, 0), 0, big(most, most, top, 1), api.OK)
	wakes(t, big(most, most, top, 0), top-1, big(most, 1, top, 1), api.OK)
	wakes(t, big(most/2, most/4, most, 0), most/2, big(most/2, most/4, most, 1), api.OK)
	wakes(t, big(most/2, most/4, most, 0), most/2+1, big(most/2, most/4-1, most, 1), api.OK)
	wakes(t, big(most/2, most/4+1, most, 0), most/2, big(most/2, most/4, most, 1), api.OK)
}

// A now that may not be is told ahead of one that is not idle, and that ahead of the end of time.
func TestWakeRefuses(t *testing.T) {
	for _, s := range goodServers() {
		for _, now := range nows {
			want := api.EARG
			switch {
			case 0 <= now && now <= top && s.Mode != 0:
				want = api.EBUSY
			case 0 <= now && now <= top:
				continue
			}
			wakes(t, s, now, s, want)
		}
	}
	for _, mode := range []int{1, 2} {
		wakes(t, of(3, 10, mode), top, of(3, 10, mode), api.EBUSY)
		wakes(t, of(3, 10, mode), 2, of(3, 10, mode), api.EBUSY)
		wakes(t, of(3, 10, mode), -1, of(3, 10, mode), api.EARG)
		wakes(t, of(3, 10, mode), top+1, of(3, 10, mode), api.EARG)
	}
}

func TestUse(t *testing.T) {
	for _, c := range []struct {
		s    Server
		n    int64
		want Server
		e    api.Errno
	}{
		{of(4, 17, 1), 1, of(3, 17, 1), api.OK}, {of(4, 17, 1), 3, of(1, 17, 1), api.OK}, {of(4, 17, 1), 4, of(0, 17, 2), api.OK},
		{of(1, 17, 1), 1, of(0, 17, 2), api.OK}, {of(4, 0, 1), 2, of(2, 0, 1), api.OK}, {of(4, top, 1), 4, of(0, top, 2), api.OK},
		{of(4, 17, 1), 5, of(4, 17, 1), api.EARG}, {of(1, 17, 1), 2, of(1, 17, 1), api.EARG}, {of(4, 17, 1), 0, of(4, 17, 1), api.EARG},
		{of(4, 17, 0), 4, of(4, 17, 0), api.ENONE}, {of(4, 17, 0), 1, of(4, 17, 0), api.ENONE}, {of(4, 17, 0), 5, of(4, 17, 0), api.EARG}, {of(4, 17, 0), 0, of(4, 17, 0), api.EARG},
		{of(4, 17, 2), 4, of(4, 17, 2), api.ENONE}, {of(4, 17, 2), 1, of(4, 17, 2), api.ENONE}, {of(4, 17, 2), 5, of(4, 17, 2), api.EARG}, {of(4, 17, 2), -1, of(4, 17, 2), api.EARG},
		{of(0, 17, 0), 1, of(0, 17, 0), api.EARG}, {of(0, 17, 2), 1, of(0, 17, 2), api.EARG}, {of(0, 17, 2), 0, of(0, 17, 2), api.EARG},
	} {
		if got, e := Use(c.s, c.n); got != c.want || e != c.e {
			t.Errorf("P12.1: Use(%v, %d): %v, %d, want %v, %d", c.s, c.n, got, e, c.want, c.e)
		}
	}
}

// At each edge of each budget: never more of it than there is.
func TestUseNeverMoreThanItHas(t *testing.T) {
	for _, s := range goodServers() {
		b := s.Budget
		for _, n := range []int64{least, least + 1, -1 << 32, -1<<32 + 1, -b - 1, -b, -1, 0, 1, b / 2, b - 1, b, b + 1, s.Q + 1, s.P + 1, most + 1, 1 << 32, 1<<32 + 1, top, great - 1, great} {
			want, e := s, api.OK
			switch {
			case n < 1 || n > b:
				e = api.EARG
			case s.Mode != 1:
				e = api.ENONE
			case n == b:
				want.Budget, want.Mode = 0, 2
			default:
				want.Budget = b - n
			}
			if got, f := Use(s, n); got != want || f != e {
				t.Errorf("P12.1: Use(%v, %d): %v, %d, want %v, %d", s, n, got, f, want, e)
			}
		}
	}
}

// Its budget and its Due stay, whether it rests or waits.
func TestIdleAndWait(t *testing.T) {
	for _, s := range goodServers() {
		rests, lies, idleErr, waitErr := s, s, api.OK, api.OK
		rests.Mode = 0
		if s.Mode == 0 {
			idleErr = api.ENONE
		}
		if s.Mode == 1 {
			lies.Mode = 2
		} else {
			waitErr = api.ENONE
		}
		if a, e := Idle(s); a != rests || e != idleErr {
			t.Errorf("P12.1: Idle of %v: %v, %d, want %v, %d", s, a, e, rests, idleErr)
		}
		if a, e := Wait(s); a != lies || e != waitErr {
			t.Errorf("P12.1: Wait of %v: %v, %d, want %v, %d", s, a, e, lies, waitErr)
		}
	}
	for _, c := range []struct {
		s, rests, lies   Server
		idleErr, waitErr api.Errno
	}{
		{of(3, 17, 0), of(3, 17, 0), of(3, 17, 0), api.ENONE, api.ENONE},
		{of(3, 17, 1), of(3, 17, 0), of(3, 17, 2), api.OK, api.OK},
		{of(3, 17, 2), of(3, 17, 0), of(3, 17, 2), api.OK, api.ENONE},
		{of(0, 17, 2), of(0, 17, 0), of(0, 17, 2), api.OK, api.ENONE},
	} {
		a, e := Idle(c.s)
		b, f := Wait(c.s)
		if a != c.rests || e != c.idleErr || b != c.lies || f != c.waitErr {
			t.Errorf("P12.1: Idle and Wait of %v: %v, %d, %v, %d", c.s, a, e, b, f)
		}
	}
}

// turns holds that s, turned at now, is what is asked.
func turns(t *testing.T, s Server, now int64, want Server, ok bool) {
	t.Helper()
	if got, done := Turn(s, now); got != want || done != ok {
		t.Errorf("P12.1: Turn(%v, %d): %v, %v, want %v, %v", s, now, got, done, want, ok)
	}
}

func TestTurn(t *testing.T) {
	for _, s := range []Server{of(0, 17, 2), of(3, 17, 2), of(4, 17, 2), of(1, 17, 1), of(4, 17, 1)} {
		for _, now := range []int64{0, 1, 7, 16} {
			turns(t, s, now, s, false)
		}
		for now := int64(17); now < 27; now++ {
			turns(t, s, now, of(4, 27, 1), true)
		}
		turns(t, s, 27, of(4, 37, 1), true)
		turns(t, s, 36, of(4, 37, 1), true)
		turns(t, s, 37, of(4, 47, 1), true)
		turns(t, s, 1016, of(4, 1017, 1), true)
		turns(t, s, 1017, of(4, 1027, 1), true)
		turns(t, s, 1<<32+1, of(4, 1<<32+1+10, 1), true)
		turns(t, s, top-8, of(4, top-7, 1), true) // Horizon is 4 above a multiple of 10: the last one ends in 7
		turns(t, s, top-7, s, false)
		turns(t, s, top-1, s, false)
		turns(t, s, top, s, false)
		for _, now := range []int64{least, -1 << 32, -1, top + 1, top + 2, great - 1, great} {
			turns(t, s, now, s, false)
		}
	}
}

func TestTurnAtTheEndOfTime(t *testing.T) {
	for _, mode := range []int{1, 2} {
		turns(t, of(3, top-10, mode), top-10, of(4, top, 1), true)
		turns(t, of(3, top-10, mode), top-1, of(4, top, 1), true)
		turns(t, of(3, top-10, mode), top, of(3, top-10, mode), false)
		turns(t, of(3, top-9, mode), top-9, of(3, top-9, mode), false)
		turns(t, of(3, top-20, mode), top-11, of(4, top-10, 1), true)
		turns(t, of(3, top-20, mode), top-10, of(4, top, 1), true)
		turns(t, of(3, top, mode), top-1, of(3, top, mode), false)
		turns(t, of(3, top, mode), top, of(3, top, mode), false)
		turns(t, of(3, top-10, mode), top+1, of(3, top-10, mode), false)
		turns(t, Server{most, most, 5, 0, mode}, top-1, Server{most, most, most, top, 1}, true)
		turns(t, Server{most, most, 5, 0, mode}, top, Server{most, most, 5, 0, mode}, false)
		turns(t, Server{most, most, 5, 0, mode}, top-most-1, Server{most, most, most, top - most, 1}, true)
		turns(t, Server{1, 1, 1, 0, mode}, top-1, Server{1, 1, 1, top, 1}, true)
		turns(t, Server{1, 1, 1, 0, mode}, top, Server{1, 1, 1, 0, mode}, false)
		turns(t, Server{1, 1, 1, 0, mode}, 0, Server{1, 1, 1, 1, 1}, true)
	}
}

// Who rests begins no window.
func TestTurnOfTheIdle(t *testing.T) {
	for _, budget := range []int64{0, 1, 4} {
		for _, due := range []int64{0, 17, top - 10, top} {
			for _, now := range nows {
				turns(t, of(budget, due, 0), now, of(budget, due, 0), false)
			}
		}
	}
}

func TestLess(t *testing.T) {
	dues := []int64{least, -1 << 32, -1, 0, 1, 2, 9, 10, 255, 256, most - 1, most, 1 << 32, 1<<32 + 1, top - 1, top, top + 1, great}
	for i, a := range dues {
		for k, b := range dues {
			if got := Less(of(1, a, 1), of(1, b, 1)); got != (i < k) {
				t.Errorf("P12.1: Less of Dues %d and %d: %v", a, b, got)
			}
			// By their Dues alone, whether they are Good or not.
			if got := Less(Server{1, 1, 0, a, 0}, Server{most, most, most, b, 2}); got != (i < k) {
				t.Errorf("P12.1: Less of one of 1 and one of %d, of Dues %d and %d: %v", most, a, b, got)
			}
			if got := Less(Server{most, most, most, a, 2}, Server{1, 1, 0, b, 0}); got != (i < k) {
				t.Errorf("P12.1: Less of one of %d and one of 1, of Dues %d and %d: %v", most, a, b, got)
			}
		}
	}
}

// wakeBy is Wake, by numbers of any size, of a Good one.
func wakeBy(s Server, now int64) (Server, api.Errno) {
	switch {
	case now < 0 || now > top:
		return s, api.EARG
	case s.Mode != 0:
		return s, api.EBUSY
	case s.Due <= now && now > top-s.P:
		return s, api.EOVER
	case s.Due <= now:
		return Server{s.Q, s.P, s.Q, now + s.P, 1}, api.OK
	}
	x := s.Due - now
	if x > s.P {
		x = s.P
	}
	share := new(big.Int).Mul(big.NewInt(x), big.NewInt(s.Q))
	if new(big.Int).Mul(big.NewInt(s.Budget), big.NewInt(s.P)).Cmp(share) > 0 {
		s.Budget = share.Div(share, big.NewInt(s.P)).Int64()
	}
	s.Mode = 1
	if s.Budget == 0 {
		s.Mode = 2
	}
	return s, api.OK
}

// turnBy is Turn, one window behind the other, of a Good one.
func turnBy(s Server, now int64) (Server, bool) {
	if s.Mode == 0 || s.Due > now || now > top {
		return s, false
	}
	due := s.Due
	for due <= now {
		due += s.P
	}
	if due > top {
		return s, false
	}
	return Server{s.Q, s.P, s.Q, due, 1}, true
}

// All the small ones, at all ticks near them: near the beginning of time, and near its end.
func TestAllSmallOnes(t *testing.T) {
	for _, from := range []int64{0, top - 12} {
		for p := int64(1); p <= 5; p++ {
			for q := int64(1); q <= p; q++ {
				for budget := range q + 1 {
					for due := from; due <= from+12; due++ {
						smallOne(t, Server{q, p, budget, due, 0}, from)
						smallOne(t, Server{q, p, budget, due, 2}, from)
						if budget > 0 {
							smallOne(t, Server{q, p, budget, due, 1}, from)
						}
					}
				}
			}
		}
	}
}

// smallOne holds Wake and Turn of one at each tick near from.
func smallOne(t *testing.T, s Server, from int64) {
	for now := from - 1; now <= from+13; now++ {
		want, e := wakeBy(s, now)
		wakes(t, s, now, want, e)
		turned, ok := turnBy(s, now)
		turns(t, s, now, turned, ok)
	}
}

// lots is a row of numbers by lot.
type lots uint64

func (l *lots) below(n int64) int64 {
	*l = *l*6364136223846793005 + 1442695040888963407
	return int64(*l>>33) % n
}

// user is a server, and how much of each window it has used, by the window's Due.
type user struct {
	s    Server
	used map[int64]int64
}

// act does one thing to it at now, held against what is asked; it tells whether it began a window.
func (u *user) act(t *testing.T, l *lots, now int64) bool {
	s := u.s
	switch l.below(8) {
	case 0, 1:
		want, e := wakeBy(s, now)
		wakes(t, s, now, want, e)
		u.s, _ = Wake(s, now)
	case 2, 3:
		want, ok := turnBy(s, now)
		turns(t, s, now, want, ok)
		u.s, _ = Turn(s, now)
	case 4, 5, 6:
		n := l.below(s.Q+2) + l.below(2)
		if after, e := Use(s, n); e == api.OK {
			u.used[s.Due] += n
			u.s = after
		}
		if ok := 1 <= n && n <= s.Budget && s.Mode == 1; ok != (u.s != s) || u.s.Budget < 0 {
			t.Errorf("P12.1: Use(%v, %d): %v", s, n, u.s)
		}
	case 7:
		if l.below(2) == 0 {
			u.s, _ = Idle(s)
		} else {
			u.s, _ = Wait(s)
		}
	}
	return u.s.Due != s.Due
}

// Many by lot, woken, used, turned and put to rest in any order: of no window more than its budget.
func TestByLot(t *testing.T) {
	l, windows, whole := lots(12), 0, 0
	for range 600 {
		p := 1 + l.below([]int64{3, 12, 300, most}[l.below(4)])
		q := 1 + l.below(p)
		s, e := New(q, p)
		if e != api.OK {
			t.Fatalf("P12.1: New(%d, %d): %d", q, p, e)
		}
		now := l.below(100)
		if l.below(4) == 0 {
			now = top - l.below(20*p)
		}
		u := user{s, map[int64]int64{}}
		for range 200 {
			was := u.s
			if began := u.act(t, &l, now); began {
				windows++
			}
			if u.s.Q != q || u.s.P != p || !Good(u.s) || u.s.Due < was.Due || u.s.Due == was.Due && u.s.Budget > was.Budget || u.s.Due > was.Due && u.s.Due <= now {
				t.Fatalf("P12.1: at %d of %v came %v", now, was, u.s)
			}
			if l.below(3) == 0 {
				now = min(top, now+l.below(p/2+2))
			}
		}
		for due, n := range u.used {
			if n > q {
				t.Errorf("P12.1: %d of the window of %d till %d, want at most %d", n, p, due, q)
			}
			if n == q {
				whole++
			}
		}
	}
	if windows < 3000 || whole < 1000 {
		t.Errorf("the lots began %d windows, and used %d to the end: too few to tell", windows, whole)
	}
}

// One that runs whenever it may, tick by tick, resting and woken again by lot: from a turn on it
// runs its whole budget ahead of the next one, and from a wake on no thicker than Q in P.
func TestTickByTick(t *testing.T) {
	l := lots(7)
	for range 200 {
		p := 2 + l.below(30)
		q := 1 + l.below(p)
		s, _ := New(q, p)
		since, may, ran := int64(0), int64(0), int64(0)
		for now := range int64(600) {
			if next, turned := Turn(s, now); turned {
				if s.Budget == 0 && ran != may {
					t.Errorf("P12.1: of %d in %d: it ran %d from %d till %d, want %d", q, p, ran, since, now, may)
				}
				s, since, may, ran = next, now, q, 0
			}
			if s.Mode == 0 && l.below(4) == 0 {
				s, _ = Wake(s, now)
				since, may, ran = now, s.Budget, 0
				if x := s.Due - now; may*p > x*q || x > p {
					t.Errorf("P12.1: woken at %d: %v, thicker than %d in %d", now, s, q, p)
				}
			}
			if s.Mode == 1 {
				s, _ = Use(s, 1)
				ran++
			}
			if s.Mode != 0 && l.below(25) == 0 {
				s, _ = Idle(s)
			}
			if ran > may {
				t.Errorf("P12.1: of %d in %d: it ran %d since %d, want at most %d", q, p, ran, since, may)
			}
		}
	}
}
