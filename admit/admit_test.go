package admit

import (
	"math"
	"slices"
	"testing"

	"beadle/api"
	"beadle/win"
)

const (
	most  = api.MaxPeriod // 2147483648
	least = math.MinInt64
	great = math.MaxInt64
	lives = api.MaxServers // 32
	fills = 63             // so many counted are too many for one more
)

// bad are some pairs that may not be.
var bad = []win.Pair{{}, {Q: 0, P: 1}, {Q: -1, P: 5}, {Q: least, P: 5}, {Q: -1<<32 + 2, P: 5}, {Q: 2, P: 1}, {Q: 6, P: 5}, {Q: 1<<32 + 2, P: 5}, {Q: great, P: 5}, {Q: 1, P: 0}, {Q: 1, P: -1}, {Q: -1, P: -1}, {Q: 1, P: least},
	{Q: 1, P: most + 1}, {Q: most, P: most + 1}, {Q: most + 1, P: most}, {Q: most + 1, P: most + 1}, {Q: 2, P: 1<<32 + 5}, {Q: 1, P: great}, {Q: great, P: great}}

// early are some ticks that may not be.
var early = []int64{-1, -2, -1 << 31, -1 << 32, -1<<32 + 1, least + 1, least}

// late are some ticks that may be.
var late = []int64{0, 1, 1<<31 - 1, 1 << 31, 1 << 32, api.Horizon - 1, api.Horizon, api.Horizon + 1, great - 1, great}

// seen are the ticks at which a Book is looked at.
var seen = []int64{least, -1, 0, 1, 9, 10, 11, 49, 50, 51, 99, 100, 101, 1 << 40, great - 1, great}

func of(q, p int64) win.Pair { return win.Pair{Q: q, P: p} }

// small is a pair of which many fit on many CPUs.
var small = win.Pair{Q: 1, P: 1 << 20}

// plainFits tells whether all of l fit on m CPUs, as chapter 13 says it.
func plainFits(m int, l []win.Pair) bool {
	if len(l) > 64 {
		return false
	}
	for k, y := range l {
		var taken int64
		for i, x := range l {
			if i != k {
				r := y.P + x.P - x.Q
				work := min(r/x.P*x.Q+min(x.Q, r%x.P), y.P)
				taken += min(work, y.P-y.Q+1)
			}
		}
		if taken >= int64(m)*(y.P-y.Q+1) {
			return false
		}
	}
	return true
}

// plain is a Book by the chapter's words.
type plain struct {
	cpus       int
	live, left []Entry
}

func (b *plain) counted(now int64, but int) []win.Pair {
	var some []win.Pair
	for i, x := range b.live {
		if i != but {
			some = append(some, x.Pair)
		}
	}
	for _, x := range b.Lingers(now) {
		some = append(some, x.Pair)
	}
	return some
}

func (b *plain) at(id int) int {
	for i, x := range b.live {
		if x.ID == id {
			return i
		}
	}
	return -1
}

func (b *plain) Ask(x win.Pair, now int64) api.Errno {
	some := b.counted(now, -1)
	switch {
	case x.Q < 1 || x.Q > x.P || x.P > most || now < 0:
		return api.EARG
	case len(b.live) >= lives || len(some) >= fills:
		return api.EFULL
	case !plainFits(b.cpus, append(some, x)):
		return api.EADMIT
	}
	return api.OK
}

func (b *plain) Enter(id int, x win.Pair, now int64) api.Errno {
	e := b.Ask(x, now)
	if e != api.EARG && b.at(id) >= 0 {
		return api.EBUSY
	}
	if e == api.OK {
		b.live = append(b.live, Entry{id, x, -1})
	}
	return e
}

func (b *plain) Leave(id int, till, now int64) api.Errno {
	at := b.at(id)
	switch {
	case till < 0 || now < 0:
		return api.EARG
	case at < 0:
		return api.EID
	case till > now:
		b.left = append(b.left, Entry{id, b.live[at].Pair, till})
	}
	b.live = append(b.live[:at:at], b.live[at+1:]...)
	return api.OK
}

func (b *plain) Change(id int, x win.Pair, now int64) api.Errno {
	at := b.at(id)
	switch {
	case x.Q < 1 || x.Q > x.P || x.P > most || now < 0:
		return api.EARG
	case at < 0:
		return api.EID
	case !plainFits(b.cpus, append(b.counted(now, at), x)):
		return api.EADMIT
	}
	b.live[at].Pair = x
	return api.OK
}

func (b *plain) Live() []Entry { return b.live }

func (b *plain) Lingers(now int64) []Entry {
	var some []Entry
	for _, x := range b.left {
		if x.Till > now {
			some = append(some, x)
		}
	}
	return some
}

// book makes one for so many CPUs, in which those of ids 0, 1, .. live, in their order.
func book(t *testing.T, cpus int, pairs ...win.Pair) *Book {
	t.Helper()
	b, e := New(cpus)
	if e != api.OK || b == nil {
		t.Fatalf("P14.1: New(%d): %v, %d", cpus, b, e)
	}
	for id, x := range pairs {
		is(t, "Enter", b.Enter(id, x, 0), api.OK)
	}
	return b
}

// room makes one for so many CPUs, in which so many small ones live (0, 1, ..) and so many linger till 100.
func room(t *testing.T, cpus, live, linger int) *Book {
	t.Helper()
	b := book(t, cpus)
	for i := range linger {
		is(t, "Enter of one to linger", b.Enter(i%3, small, 0), api.OK)
		is(t, "Leave", b.Leave(i%3, 100, 0), api.OK)
	}
	for id := range live {
		is(t, "Enter of one to live", b.Enter(id, small, 0), api.OK)
	}
	return b
}

func is(t *testing.T, what string, got, want api.Errno) {
	t.Helper()
	if got != want {
		t.Errorf("P14.1: %s: %d, want %d", what, got, want)
	}
}

// shows checks who is in.
func shows(t *testing.T, what string, b *Book, want ...Entry) {
	t.Helper()
	if got := b.Live(); !slices.Equal(got, want) {
		t.Errorf("P14.1: Live after %s: %v, want %v", what, got, want)
	}
}

// lingers checks who is counted still.
func lingers(t *testing.T, what string, b *Book, now int64, want ...Entry) {
	t.Helper()
	if got := b.Lingers(now); !slices.Equal(got, want) {
		t.Errorf("P14.1: Lingers(%d) after %s: %v, want %v", now, what, got, want)
	}
}

// all tells all that a Book tells: who lives, and who lingers at each tick.
func all(b *Book) [][]Entry {
	lists := [][]Entry{b.Live()}
	for _, now := range seen {
		lists = append(lists, b.Lingers(now))
	}
	return lists
}

// same checks that a Book tells what it told.
func same(t *testing.T, what string, b *Book, old [][]Entry) {
	t.Helper()
	for i, l := range all(b) {
		if !slices.Equal(l, old[i]) {
			t.Errorf("P14.1: after %s: %v, want %v", what, l, old[i])
		}
	}
}

func TestExample(t *testing.T) {
	b := book(t, 1)
	is(t, "Enter {1, 2}", b.Enter(1, of(1, 2), 0), api.OK)
	is(t, "Enter {1, 2} again", b.Enter(2, of(1, 2), 0), api.EADMIT)
	shows(t, "that", b, Entry{1, of(1, 2), -1})
}

func TestNew(t *testing.T) {
	for _, cpus := range []int{math.MinInt, math.MinInt + 1, -1 << 32, -1<<32 + 1, -64, -2, -1, 0, api.MaxCPUs + 1, api.MaxCPUs + 2, 128, 256, 257, 1 << 31, 1 << 32, 1<<32 + 1, 1<<32 + 64, math.MaxInt} {
		if b, e := New(cpus); b != nil || e != api.EARG {
			t.Errorf("P14.1: New(%d): %v, %d, want EARG", cpus, b, e)
		}
	}
	for cpus := 1; cpus <= api.MaxCPUs; cpus++ {
		b := book(t, cpus)
		if len(b.Live()) != 0 || len(b.Lingers(least)) != 0 {
			t.Errorf("P14.1: New(%d): %v live, %v linger", cpus, b.Live(), b.Lingers(least))
		}
		is(t, "Ask of all of a CPU", b.Ask(of(1, 1), 0), api.OK)
		is(t, "Ask of all of a long one", b.Ask(of(most, most), 0), api.OK)
	}
}

// So many that take a whole CPU fit as there are CPUs.
func TestCPUs(t *testing.T) {
	for cpus := 1; cpus <= api.MaxCPUs; cpus++ {
		b := book(t, cpus)
		for i := range min(cpus, fills) {
			is(t, "Enter of a whole CPU", b.Enter(i, of(1, 1), 0), api.OK)
			if i%2 == 0 {
				is(t, "Leave", b.Leave(i, 100, 0), api.OK)
			}
		}
		want := api.EADMIT
		if cpus >= fills {
			want = api.EFULL
		}
		is(t, "Ask of one CPU more", b.Ask(of(1, 1), 0), want)
		is(t, "Ask of the least one more", b.Ask(of(1, most), 0), want)
		is(t, "Ask when the others are over", b.Ask(of(1, 1), 100), api.OK)
	}
}

func TestWrong(t *testing.T) {
	for _, b := range []*Book{book(t, 1), book(t, 1, of(1, 2)), book(t, 3, of(1, 1), of(1, 2), of(1, 4)), room(t, 64, lives, 30), room(t, 64, 31, 32)} {
		old := all(b)
		for _, x := range bad {
			for _, now := range append(slices.Clone(early), late...) {
				for _, id := range []int{0, 1, 99} {
					is(t, "Enter of a bad pair", b.Enter(id, x, now), api.EARG)
					is(t, "Change to a bad pair", b.Change(id, x, now), api.EARG)
				}
				is(t, "Ask of a bad pair", b.Ask(x, now), api.EARG)
			}
		}
		for _, tick := range early {
			for _, id := range []int{0, 1, 99} {
				for _, x := range []win.Pair{small, of(1, 1), of(most, most)} {
					is(t, "Enter at a tick below 0", b.Enter(id, x, tick), api.EARG)
					is(t, "Change at a tick below 0", b.Change(id, x, tick), api.EARG)
					is(t, "Ask at a tick below 0", b.Ask(x, tick), api.EARG)
				}
				for _, other := range append(slices.Clone(early), late...) {
					is(t, "Leave till a tick below 0", b.Leave(id, tick, other), api.EARG)
					is(t, "Leave at a tick below 0", b.Leave(id, other, tick), api.EARG)
				}
			}
		}
		same(t, "calls with what may not be", b, old)
	}
}

func TestTicks(t *testing.T) {
	for _, now := range late {
		b := book(t, 1)
		is(t, "Ask", b.Ask(of(1, 2), now), api.OK)
		is(t, "Enter", b.Enter(math.MinInt, of(1, 4), now), api.OK)
		is(t, "Ask of all", b.Ask(of(1, 1), now), api.EADMIT)
		is(t, "Change", b.Change(math.MinInt, of(1, 1), now), api.OK)
		shows(t, "Change", b, Entry{math.MinInt, of(1, 1), -1})
		is(t, "Ask of one more", b.Ask(of(1, 9), now), api.EADMIT)
		is(t, "Leave till then", b.Leave(math.MinInt, now, now), api.OK)
		shows(t, "Leave", b)
		lingers(t, "Leave till then", b, 0)
		is(t, "Enter", b.Enter(math.MaxInt, of(1, 1), now), api.OK)
		is(t, "Leave till the last tick", b.Leave(math.MaxInt, great, now), api.OK)
		if now < great {
			lingers(t, "Leave till the last tick", b, great-1, Entry{math.MaxInt, of(1, 1), great})
			is(t, "Ask just ahead of it", b.Ask(of(1, 9), great-1), api.EADMIT)
		}
		lingers(t, "Leave till the last tick", b, great)
		is(t, "Ask at it", b.Ask(of(1, 1), great), api.OK)
	}
}

// With MaxServers live, and one fewer.
func TestLiveFull(t *testing.T) {
	b := room(t, 64, lives-1, 0)
	is(t, "Ask with 31 live", b.Ask(small, 0), api.OK)
	is(t, "Enter with 31 live", b.Enter(77, small, 0), api.OK)
	old := all(b)
	for _, now := range late {
		is(t, "Ask with 32 live", b.Ask(small, now), api.EFULL)
		is(t, "Enter with 32 live", b.Enter(78, small, now), api.EFULL)
		is(t, "Enter with 32 live, of one of them", b.Enter(77, small, now), api.EBUSY)
	}
	same(t, "Enters that are refused", b, old)
	is(t, "Change with 32 live", b.Change(77, of(2, 1<<20), 0), api.OK)
	is(t, "Leave with 32 live", b.Leave(3, 0, 0), api.OK)
	is(t, "Enter with 31 live", b.Enter(78, small, 0), api.OK)
	is(t, "Ask with 32 live", b.Ask(small, 0), api.EFULL)
}

// With 2 MaxServers less 1 counted, and one fewer, live and lingering in any mix.
func TestCountedFull(t *testing.T) {
	for live := range lives {
		b := room(t, 64, live, fills-1-live)
		is(t, "Ask with 62 counted", b.Ask(small, 0), api.OK)
		is(t, "Ask with 62 counted", b.Ask(small, 99), api.OK)
		is(t, "Enter with 62 counted", b.Enter(77, small, 99), api.OK)
		old := all(b)
		for _, now := range []int64{0, 1, 50, 98, 99} {
			is(t, "Ask with 63 counted", b.Ask(small, now), api.EFULL)
			is(t, "Enter with 63 counted", b.Enter(78, small, now), api.EFULL)
		}
		same(t, "Enters that are refused", b, old)
		want := api.OK
		if live == lives-1 {
			want = api.EFULL
		}
		for _, now := range []int64{100, 101, great} {
			is(t, "Ask when the others are over", b.Ask(small, now), want)
		}
		is(t, "Change with 63 counted", b.Change(77, of(1, 1<<19), 99), api.OK)
	}
	is(t, "Ask with 32 live of 62", room(t, 64, lives, 30).Ask(small, 0), api.EFULL)
	is(t, "Ask with 32 live of 63", room(t, 64, lives, 31).Ask(small, 0), api.EFULL)
	b := room(t, 64, 0, fills)
	is(t, "Ask with 63 lingering", b.Ask(small, 99), api.EFULL)
	is(t, "Ask when they are over", b.Ask(small, 100), api.OK)
}

// Where the counted ones and one more just fit, and just do not.
func TestFits(t *testing.T) {
	for _, c := range []struct {
		cpus    int
		in      []win.Pair
		fit, no win.Pair
	}{
		// it takes 14 of 20, of which 15 may be taken; then 16
		{1, []win.Pair{of(5, 20)}, of(7, 20), of(8, 20)},
		{1, []win.Pair{of(5, 20)}, of(7, 40), of(8, 40)},
		// it is left 6 of 16, and 7 of them never
		{1, []win.Pair{of(5, 20)}, of(6, 16), of(7, 16)},
		{1, []win.Pair{of(5, 20)}, of(2, 12), of(3, 12)},
		{1, []win.Pair{of(5, 20)}, of(1, 11), of(1, 10)},
		{1, []win.Pair{of(8, 20)}, of(4, 20), of(5, 20)},
		{1, []win.Pair{of(2, 4)}, of(1, 5), of(1, 4)},
		{1, []win.Pair{of(1, 8), of(2, 40)}, of(1, 8), of(1, 6)},
		{1, []win.Pair{of(1, 10), of(1, 12), of(2, 40)}, of(1, 9), of(1, 8)},
		{2, []win.Pair{of(5, 20), of(5, 20), of(5, 20)}, of(5, 20), of(6, 20)},
		{2, []win.Pair{of(2, 10), of(3, 15), of(4, 20)}, of(1, 10), of(2, 10)},
		{3, []win.Pair{of(1, 4), of(1, 5), of(1, 6), of(1, 7)}, of(14, 20), of(15, 20)},
		{3, []win.Pair{of(5, 9), of(4, 12), of(1, 12)}, of(35, 40), of(36, 40)},
		{1, []win.Pair{of(1, most)}, of(most/2-1, most), of(most/2, most)},
	} {
		if in := append(slices.Clone(c.in), c.fit); !plainFits(c.cpus, in) {
			t.Errorf("%v do not fit on %d", in, c.cpus)
		}
		if in := append(slices.Clone(c.in), c.no); plainFits(c.cpus, in) {
			t.Errorf("%v fit on %d", in, c.cpus)
		}
		is(t, "Ask of what just fits", book(t, c.cpus, c.in...).Ask(c.fit, 0), api.OK)
		is(t, "Ask of what just does not", book(t, c.cpus, c.in...).Ask(c.no, 0), api.EADMIT)
		for linger := range len(c.in) + 1 {
			askFits(t, c.cpus, c.in, linger, c.fit)
			askFits(t, c.cpus, c.in, linger, c.no)
		}
	}
	// by hand: those that linger count as those that live
	b := book(t, 1, of(5, 20))
	is(t, "Ask {7, 20} beside {5, 20}", b.Ask(of(7, 20), 0), api.OK)
	is(t, "Ask {8, 20} beside {5, 20}", b.Ask(of(8, 20), 0), api.EADMIT)
	is(t, "Leave", b.Leave(0, 50, 10), api.OK)
	for _, now := range []int64{0, 9, 10, 11, 49} {
		is(t, "Ask {7, 20} beside {5, 20} that lingers", b.Ask(of(7, 20), now), api.OK)
		is(t, "Ask {8, 20} beside {5, 20} that lingers", b.Ask(of(8, 20), now), api.EADMIT)
		is(t, "Enter {8, 20} beside {5, 20} that lingers", b.Enter(0, of(8, 20), now), api.EADMIT)
	}
	for _, now := range []int64{50, 51, great} {
		is(t, "Ask {20, 20} beside none", b.Ask(of(20, 20), now), api.OK)
	}
	is(t, "Enter {8, 20} beside none", b.Enter(0, of(8, 20), 50), api.OK)
	is(t, "Enter {7, 20} beside both", b.Enter(1, of(7, 20), 49), api.EADMIT)
	is(t, "Enter {5, 20} beside {8, 20}", b.Enter(1, of(5, 20), 50), api.EADMIT)
	is(t, "Enter {4, 20} beside {8, 20}", b.Enter(1, of(4, 20), 50), api.OK)
}

// askFits asks whether x comes in beside some, of which the first ones linger till 50.
func askFits(t *testing.T, cpus int, in []win.Pair, linger int, x win.Pair) {
	t.Helper()
	b := book(t, cpus, in...)
	for id := range linger {
		is(t, "Leave", b.Leave(id, 50, 0), api.OK)
	}
	want, later := api.EADMIT, api.EADMIT
	if plainFits(cpus, append(slices.Clone(in), x)) {
		want = api.OK
	}
	if plainFits(cpus, append(slices.Clone(in[linger:]), x)) {
		later = api.OK
	}
	for _, now := range []int64{0, 1, 49, 50, 51} {
		if now == 50 {
			want = later
		}
		if got := b.Ask(x, now); got != want {
			t.Errorf("P14.1: %d CPUs, %v, the first %d linger till 50: Ask(%v, %d): %d, want %d", cpus, in, linger, x, now, got, want)
		}
	}
	is(t, "Enter as Ask told", b.Enter(99, x, 51), later)
}

// All that may come in beside few.
func TestFitsAll(t *testing.T) {
	for cpus := 1; cpus <= 3; cpus++ {
		for _, in := range [][]win.Pair{{}, {of(1, 2)}, {of(2, 5)}, {of(1, 3), of(1, 6)}, {of(1, 6), of(2, 18)}, {of(1, 1)}} {
			for p := int64(1); p <= 12; p++ {
				for q := int64(1); q <= p; q++ {
					for linger := range len(in) + 1 {
						askFits(t, cpus, in, linger, of(q, p))
					}
				}
			}
		}
	}
}

// Which of several errors is told.
func TestFirst(t *testing.T) {
	full := room(t, 64, lives, 0) // 32 live, of whom 0 is one
	is(t, "EARG ahead of EBUSY", full.Enter(0, of(2, 1), 0), api.EARG)
	is(t, "EARG ahead of EBUSY", full.Enter(0, small, -1), api.EARG)
	is(t, "EARG ahead of EFULL", full.Enter(99, of(2, 1), 0), api.EARG)
	is(t, "EARG ahead of EFULL", full.Enter(99, small, -1), api.EARG)
	is(t, "EARG ahead of EFULL", full.Ask(of(2, 1), 0), api.EARG)
	is(t, "EARG ahead of EFULL", full.Ask(small, -1), api.EARG)
	is(t, "EBUSY ahead of EFULL", full.Enter(0, small, 0), api.EBUSY)
	one := book(t, 1, of(1, 1))
	is(t, "EARG ahead of EADMIT", one.Ask(of(1, 1), -1), api.EARG)
	is(t, "EARG ahead of EADMIT", one.Enter(99, of(1, 1), -1), api.EARG)
	is(t, "EARG ahead of EADMIT", one.Enter(99, of(9, 1), 0), api.EARG)
	is(t, "EBUSY ahead of EADMIT", one.Enter(0, of(1, 1), 0), api.EBUSY)
	is(t, "EARG ahead of EID", one.Change(99, of(9, 1), 0), api.EARG)
	is(t, "EARG ahead of EID", one.Change(99, of(1, 1), -1), api.EARG)
	is(t, "EARG ahead of EID", one.Leave(99, -1, 0), api.EARG)
	is(t, "EARG ahead of EID", one.Leave(99, 0, -1), api.EARG)
	is(t, "EID", one.Leave(99, 0, 0), api.EID)
	few := room(t, 1, lives, 0)
	is(t, "EFULL ahead of EADMIT, 32 live", few.Ask(of(1, 1), 0), api.EFULL)
	is(t, "EFULL ahead of EADMIT, 32 live", few.Enter(99, of(1, 1), 0), api.EFULL)
	is(t, "EBUSY ahead of EFULL and EADMIT", few.Enter(0, of(1, 1), 0), api.EBUSY)
	is(t, "EARG ahead of all", few.Enter(0, of(2, 1), 0), api.EARG)
	is(t, "EID ahead of EADMIT", few.Change(99, of(1, 1), 0), api.EID)
	is(t, "EADMIT", few.Change(0, of(1, 1), 0), api.EADMIT)
	is(t, "EARG ahead of EADMIT", few.Change(0, of(1, 1), -1), api.EARG)
	some := room(t, 1, 3, fills-3)
	is(t, "EFULL ahead of EADMIT, 63 counted", some.Ask(of(1, 1), 99), api.EFULL)
	is(t, "EFULL ahead of EADMIT, 63 counted", some.Enter(99, of(1, 1), 99), api.EFULL)
	is(t, "EBUSY ahead of EFULL, 63 counted", some.Enter(0, small, 99), api.EBUSY)
	is(t, "EADMIT with 3 counted", some.Ask(of(1, 1), 100), api.EADMIT)
	is(t, "EADMIT with 62 counted", room(t, 1, 3, fills-4).Ask(of(1, 1), 99), api.EADMIT)
}

func TestEnter(t *testing.T) {
	b := book(t, 3, of(1, 4), of(1, 5))
	old := all(b)
	is(t, "Enter of one that is live", b.Enter(1, of(1, 9), 0), api.EBUSY)
	is(t, "Enter of one that takes a whole CPU", b.Enter(2, of(9, 9), 0), api.OK)
	is(t, "Leave", b.Leave(2, 0, 0), api.OK)
	same(t, "Enter and Leave at once", b, old)
	is(t, "Leave of 0, that lingers", b.Leave(0, 50, 0), api.OK)
	is(t, "Enter of one that lingers", b.Enter(0, of(1, 6), 0), api.OK)
	is(t, "Enter of it again", b.Enter(0, of(1, 6), 0), api.EBUSY)
	shows(t, "Enter of one that lingers", b, Entry{1, of(1, 5), -1}, Entry{0, of(1, 6), -1})
	lingers(t, "Enter of one that lingers", b, 0, Entry{0, of(1, 4), 50})
	is(t, "Leave of 1, that is gone", b.Leave(1, 10, 10), api.OK)
	is(t, "Enter of one that is gone", b.Enter(1, of(1, 7), 50), api.OK)
	is(t, "Leave of 0, till 100", b.Leave(0, 100, 50), api.OK)
	is(t, "Enter of one that is over at 100", b.Enter(0, of(1, 8), 100), api.OK)
	shows(t, "all", b, Entry{1, of(1, 7), -1}, Entry{0, of(1, 8), -1})
	lingers(t, "all", b, 0, Entry{0, of(1, 4), 50}, Entry{0, of(1, 6), 100})
	lingers(t, "all", b, 50, Entry{0, of(1, 6), 100})
	for _, id := range []int{math.MinInt, -1 << 32, -1, 255, 256, 1 << 32, math.MaxInt} {
		is(t, "Enter of any id", b.Enter(id, small, 100), api.OK)
		is(t, "Enter of it again", b.Enter(id, small, 100), api.EBUSY)
	}
}

func TestEnterRefused(t *testing.T) {
	b := book(t, 1, of(1, 9), of(1, 12))
	is(t, "Leave", b.Leave(1, 50, 0), api.OK)
	old := all(b)
	is(t, "Enter of one that is live", b.Enter(0, small, 0), api.EBUSY)
	is(t, "Enter of one that does not fit", b.Enter(2, of(1, 2), 0), api.EADMIT)
	is(t, "Enter of one that lingers and does not fit", b.Enter(1, of(1, 2), 49), api.EADMIT)
	is(t, "Ask of one that does not fit", b.Ask(of(1, 2), 0), api.EADMIT)
	is(t, "Ask of one that fits", b.Ask(small, 0), api.OK)
	same(t, "Enters that are refused, and Asks", b, old)
}

func TestLeave(t *testing.T) {
	b := book(t, 3, of(1, 4), of(1, 5), of(1, 6), of(1, 7))
	is(t, "Leave till below now", b.Leave(1, 9, 10), api.OK)
	is(t, "Leave till now", b.Leave(0, 10, 10), api.OK)
	shows(t, "two of them are gone", b, Entry{2, of(1, 6), -1}, Entry{3, of(1, 7), -1})
	for _, now := range []int64{least, -1, 0, 8, 9, 10, great} {
		lingers(t, "two of them are gone", b, now)
	}
	is(t, "Leave till just above now", b.Leave(3, 11, 10), api.OK)
	is(t, "Leave again", b.Leave(3, 11, 10), api.EID)
	is(t, "Leave of one that is gone", b.Leave(0, 11, 10), api.EID)
	is(t, "Leave of none", b.Leave(99, 11, 10), api.EID)
	is(t, "Leave of none", b.Leave(-1, 11, 10), api.EID)
	shows(t, "all but one left", b, Entry{2, of(1, 6), -1})
	for _, now := range []int64{least, -1, 0, 9, 10} {
		lingers(t, "it lingers till 11", b, now, Entry{3, of(1, 7), 11})
	}
	lingers(t, "it is over", b, 11)
	lingers(t, "it is over", b, 12)
	is(t, "Leave of the last one", b.Leave(2, 10, 0), api.OK)
	shows(t, "all left", b)
	lingers(t, "all left", b, 9, Entry{3, of(1, 7), 11}, Entry{2, of(1, 6), 10})
	lingers(t, "all left", b, 10, Entry{3, of(1, 7), 11})
	none := book(t, 1)
	is(t, "Leave of none at all", none.Leave(0, 0, 0), api.EID)
	is(t, "Change of none at all", none.Change(0, small, 0), api.EID)
}

// One that left and entered again: several of one id may linger.
func TestAgain(t *testing.T) {
	b := book(t, 4)
	var want []Entry
	for i := range int64(20) {
		// Tills that fall and rise, so that the order of leaving is no order of Tills
		till := 100 + i*7%20
		is(t, "Enter", b.Enter(5, of(1, 40+i), i), api.OK)
		is(t, "Leave", b.Leave(5, till, i), api.OK)
		want = append(want, Entry{5, of(1, 40+i), till})
	}
	for now := int64(90); now < 125; now++ {
		some := slices.DeleteFunc(slices.Clone(want), func(x Entry) bool { return x.Till <= now })
		lingers(t, "all left", b, now, some...)
	}
	is(t, "Leave of one whose elder ones linger", b.Leave(5, 200, 30), api.EID)
	is(t, "Change of one whose elder ones linger", b.Change(5, of(1, 40), 30), api.EID)
	lingers(t, "all left", b, 0, want...)
}

func TestChange(t *testing.T) {
	b := book(t, 1, of(5, 20), of(5, 20))
	is(t, "Change to what just fits", b.Change(1, of(7, 20), 0), api.OK)
	shows(t, "Change", b, Entry{0, of(5, 20), -1}, Entry{1, of(7, 20), -1})
	old := all(b)
	is(t, "Change to what just does not", b.Change(1, of(8, 20), 0), api.EADMIT)
	is(t, "Change of the other", b.Change(0, of(8, 20), 0), api.EADMIT)
	is(t, "Change of none", b.Change(2, of(1, 20), 0), api.EID)
	same(t, "Changes that are refused", b, old)
	is(t, "Change to what it is", b.Change(1, of(7, 20), 0), api.OK)
	same(t, "Change to what it is", b, old)
	is(t, "Change to less", b.Change(0, of(1, 20), 0), api.OK)
	shows(t, "Change to less", b, Entry{0, of(1, 20), -1}, Entry{1, of(7, 20), -1})
	is(t, "Change to less", b.Change(0, of(1, 20), great), api.OK)
	is(t, "Leave of the other", b.Leave(1, 50, 0), api.OK)
	is(t, "Change beside one that lingers", b.Change(0, of(8, 20), 49), api.EADMIT)
	is(t, "Change beside one that lingers", b.Change(0, of(5, 20), 49), api.OK)
	is(t, "Change of one that lingers", b.Change(1, of(1, 20), 49), api.EID)
	is(t, "Change beside one that is over", b.Change(0, of(20, 20), 50), api.OK)
	// more counted than fit, as at an elder tick: even less does not
	is(t, "Change to less than it is, too much still", b.Change(0, of(15, 20), 49), api.EADMIT)
	is(t, "Change to what fits", b.Change(0, of(5, 20), 49), api.OK)
	shows(t, "all", b, Entry{0, of(5, 20), -1})
	lingers(t, "all", b, 0, Entry{1, of(7, 20), 50})
	is(t, "Leave", b.Leave(0, 60, 50), api.OK)
	lingers(t, "Change and Leave", b, 0, Entry{1, of(7, 20), 50}, Entry{0, of(5, 20), 60})
}

// All that one may be changed to, beside one that lives and one that lingers.
func TestChangeAll(t *testing.T) {
	for cpus := 1; cpus <= 3; cpus++ {
		for id := range 2 {
			for p := int64(1); p <= 14; p++ {
				for q := int64(1); q <= p; q++ {
					x := of(q, p)
					b := book(t, cpus, of(1, 8), of(1, 9), of(2, 24))
					is(t, "Leave", b.Leave(2, 50, 0), api.OK)
					was := []win.Pair{of(1, 8), of(1, 9)}
					other := was[1-id]
					for _, now := range []int64{49, 50} {
						want := api.EADMIT
						if now == 49 && plainFits(cpus, []win.Pair{x, other, of(2, 24)}) || now == 50 && plainFits(cpus, []win.Pair{other, x}) {
							want = api.OK
							was[id] = x
						}
						if got := b.Change(id, x, now); got != want {
							t.Errorf("P14.1: %d CPUs, Change(%d, %v, %d): %d, want %d", cpus, id, x, now, got, want)
						}
						shows(t, "Change", b, Entry{0, was[0], -1}, Entry{1, was[1], -1})
					}
				}
			}
		}
	}
}

func TestOrder(t *testing.T) {
	b := book(t, 8, of(1, 10), of(1, 11), of(1, 12), of(1, 13), of(1, 14))
	is(t, "Change of 3", b.Change(3, of(2, 13), 0), api.OK)
	is(t, "Change of 0", b.Change(0, of(2, 10), 0), api.OK)
	shows(t, "changes", b, Entry{0, of(2, 10), -1}, Entry{1, of(1, 11), -1}, Entry{2, of(1, 12), -1}, Entry{3, of(2, 13), -1}, Entry{4, of(1, 14), -1})
	is(t, "Leave of 2", b.Leave(2, 90, 0), api.OK)
	is(t, "Leave of 0", b.Leave(0, 70, 0), api.OK)
	shows(t, "two left", b, Entry{1, of(1, 11), -1}, Entry{3, of(2, 13), -1}, Entry{4, of(1, 14), -1})
	is(t, "Enter of 2 again", b.Enter(2, of(1, 22), 0), api.OK)
	is(t, "Enter of -7", b.Enter(-7, of(1, 27), 0), api.OK)
	is(t, "Enter of 0 again", b.Enter(0, of(1, 20), 0), api.OK)
	is(t, "Change of 1", b.Change(1, of(3, 11), 0), api.OK)
	shows(t, "all", b, Entry{1, of(3, 11), -1}, Entry{3, of(2, 13), -1}, Entry{4, of(1, 14), -1}, Entry{2, of(1, 22), -1}, Entry{-7, of(1, 27), -1}, Entry{0, of(1, 20), -1})
	is(t, "Leave of 4", b.Leave(4, 80, 0), api.OK)
	is(t, "Leave of 2", b.Leave(2, 70, 0), api.OK)
	is(t, "Leave of 1", b.Leave(1, 100, 0), api.OK)
	two, none, four, two2, one := Entry{2, of(1, 12), 90}, Entry{0, of(2, 10), 70}, Entry{4, of(1, 14), 80}, Entry{2, of(1, 22), 70}, Entry{1, of(3, 11), 100}
	for _, now := range []int64{least, -1, 0, 69} {
		lingers(t, "five left", b, now, two, none, four, two2, one)
	}
	for _, now := range []int64{70, 79} {
		lingers(t, "five left", b, now, two, four, one)
	}
	for _, now := range []int64{80, 89} {
		lingers(t, "five left", b, now, two, one)
	}
	for _, now := range []int64{90, 99} {
		lingers(t, "five left", b, now, one)
	}
	for _, now := range []int64{100, great} {
		lingers(t, "five left", b, now)
	}
	// nothing is forgotten
	lingers(t, "five left, at an elder tick", b, 0, two, none, four, two2, one)
}

// At a tick below an elder one nothing is forgotten.
func TestElder(t *testing.T) {
	b := book(t, 1, of(1, 1))
	is(t, "Leave", b.Leave(0, 50, 0), api.OK)
	is(t, "Ask behind it", b.Ask(of(1, 1), 1000), api.OK)
	is(t, "Enter behind it", b.Enter(1, of(1, 4), 1000), api.OK)
	is(t, "Change behind it", b.Change(1, of(1, 3), great), api.OK)
	is(t, "Ask ahead of its end", b.Ask(of(1, 9), 49), api.EADMIT)
	is(t, "Enter ahead of its end", b.Enter(2, of(1, 9), 49), api.EADMIT)
	is(t, "Change ahead of its end", b.Change(1, small, 49), api.EADMIT)
	is(t, "Ask at its end", b.Ask(of(1, 9), 50), api.OK)
	lingers(t, "all", b, 49, Entry{0, of(1, 1), 50})
	is(t, "Leave at an elder tick", b.Leave(1, 40, 30), api.OK)
	lingers(t, "all", b, 39, Entry{0, of(1, 1), 50}, Entry{1, of(1, 3), 40})
	lingers(t, "all", b, 0, Entry{0, of(1, 1), 50}, Entry{1, of(1, 3), 40})
}

// At an elder tick more may be counted than win takes: they do not fit, however little they are.
func TestMoreThanFull(t *testing.T) {
	for _, c := range []struct {
		cpus int
		x    win.Pair
		want []api.Errno // with 62, 63, 64, 65, 66 counted
	}{
		{64, small, []api.Errno{api.OK, api.OK, api.OK, api.EADMIT, api.EADMIT}},
		{64, of(1, 1), []api.Errno{api.OK, api.OK, api.OK, api.EADMIT, api.EADMIT}},
		{63, of(1, 1), []api.Errno{api.OK, api.OK, api.EADMIT, api.EADMIT, api.EADMIT}},
	} {
		b := book(t, c.cpus)
		for now := range int64(61) {
			is(t, "Enter", b.Enter(0, c.x, 100*now), api.OK)
			is(t, "Leave", b.Leave(0, 100*now+50, 100*now), api.OK)
		}
		is(t, "Enter of one that stays", b.Enter(7, c.x, 1<<20), api.OK)
		for i, want := range c.want {
			if counted := len(b.Live()) + len(b.Lingers(0)); counted != 62+i {
				t.Errorf("P14.1: %d are counted, want %d", counted, 62+i)
			}
			is(t, "Change at an elder tick", b.Change(7, c.x, 0), want)
			is(t, "Change at a later tick", b.Change(7, c.x, 1<<20), api.OK)
			full := api.EFULL
			if i == 0 {
				full = api.OK
			}
			is(t, "Ask at an elder tick", b.Ask(c.x, 0), full)
			is(t, "Enter at a later tick", b.Enter(8, c.x, 1<<20), api.OK)
			is(t, "Leave at an elder tick", b.Leave(8, 50, 0), api.OK)
		}
	}
}

// What is told is no memory of the Book's.
func TestMemory(t *testing.T) {
	b := book(t, 8, of(1, 10), of(1, 11), of(1, 12), of(1, 13), of(1, 14))
	for id := range 3 {
		is(t, "Leave", b.Leave(id, 50, 0), api.OK)
	}
	old := all(b)
	spoil := func(l []Entry) {
		l = l[:cap(l)]
		for i := range l {
			l[i] = Entry{99, of(9, 9), 1}
		}
	}
	spoil(b.Live())
	spoil(b.Lingers(0))
	spoil(b.Lingers(50))
	same(t, "writing to what was told", b, old)
	one, two := b.Live(), b.Live()
	spoil(one)
	if !slices.Equal(two, old[0]) {
		t.Errorf("R4: one Live shares with another: %v", two)
	}
	one, two = b.Lingers(0), b.Lingers(0)
	spoil(one)
	if !slices.Equal(two, []Entry{{0, of(1, 10), 50}, {1, of(1, 11), 50}, {2, of(1, 12), 50}}) {
		t.Errorf("R4: one Lingers shares with another: %v", two)
	}
	// and what was told stays, whatever becomes of the Book
	told := b.Live()
	b.Change(3, of(1, 99), 50)
	b.Enter(6, of(1, 15), 50)
	b.Leave(3, 90, 50)
	if !slices.Equal(told, []Entry{{3, of(1, 13), -1}, {4, of(1, 14), -1}}) {
		t.Errorf("R4: what was told changed: %v", told)
	}
}

// lots are numbers that hang on the first one alone.
type lots uint64

// below tells the next one, from 0 to n less 1.
func (l *lots) below(n int64) int64 {
	*l = *l*6364136223846793005 + 1442695040888963407
	return int64(*l>>33) % n
}

// pair tells one, now and then one that may not be; the greater wide is, the less it takes.
func (l *lots) pair(wide int64) win.Pair {
	switch l.below(20) {
	case 0:
		return bad[l.below(int64(len(bad)))]
	case 1:
		return of(1, most-l.below(3))
	case 2:
		return of(1+l.below(9), 9)
	}
	p := 1 + l.below(wide)
	return of(1+l.below(p)/(1+l.below(wide)), p)
}

// how counts what was answered, so that it is known that a lot held all kinds.
type how map[string]map[api.Errno]int

// step makes one call of both.
func (h how) step(t *testing.T, l *lots, b *Book, p *plain, now, wide int64) {
	t.Helper()
	if l.below(40) == 0 {
		now = early[l.below(int64(len(early)))]
	}
	id, x, till := int(l.below(40)-3), l.pair(wide), max(now, 0)+l.below(60)-10
	if till > great-90 {
		till = great - l.below(90)
	}
	var what string
	var got, want api.Errno
	switch l.below(8) {
	case 0:
		what, got, want = "Ask", b.Ask(x, now), p.Ask(x, now)
	case 1, 2, 3, 4:
		what, got, want = "Enter", b.Enter(id, x, now), p.Enter(id, x, now)
	case 5, 6:
		what, got, want = "Leave", b.Leave(id, till, now), p.Leave(id, till, now)
	default:
		what, got, want = "Change", b.Change(id, x, now), p.Change(id, x, now)
	}
	if got != want {
		t.Fatalf("P14.1: %s of %d, %v, till %d, at %d: %d, want %d; live %v, linger %v", what, id, x, till, now, got, want, p.live, p.Lingers(now))
	}
	if h[what] == nil {
		h[what] = map[api.Errno]int{}
	}
	h[what][got]++
}

func TestByLot(t *testing.T) {
	l := lots(14)
	seen := how{}
	for round := range 120 {
		cpus := 1 + int(l.below(4))
		if round%3 == 0 {
			cpus = 1 + int(l.below(64))
		}
		b := book(t, cpus)
		p := &plain{cpus: cpus}
		wide := []int64{6, 40, 1 << 12, 1 << 31}[round%4]
		base := []int64{0, 40, 1 << 31, api.Horizon, great - 300}[round%5]
		pace := []int64{1, 4, 16}[round%3]
		for i := range int64(400) {
			now := base + min(i*pace/8, 250) + l.below(41) - 20
			if now < 0 && base > 0 {
				now = great
			}
			seen.step(t, &l, b, p, now, wide)
			if got := b.Live(); !slices.Equal(got, p.live) {
				t.Fatalf("P14.1: Live: %v, want %v", got, p.live)
			}
			now += l.below(61) - 30
			if got := b.Lingers(now); !slices.Equal(got, p.Lingers(now)) {
				t.Fatalf("P14.1: Lingers(%d): %v, want %v", now, got, p.Lingers(now))
			}
		}
	}
	for _, c := range []struct {
		what string
		e    []api.Errno
	}{
		{"Ask", []api.Errno{api.OK, api.EARG, api.EFULL, api.EADMIT}},
		{"Enter", []api.Errno{api.OK, api.EARG, api.EBUSY, api.EFULL, api.EADMIT}},
		{"Leave", []api.Errno{api.OK, api.EARG, api.EID}},
		{"Change", []api.Errno{api.OK, api.EARG, api.EID, api.EADMIT}},
	} {
		for _, e := range c.e {
			if seen[c.what][e] < 20 {
				t.Errorf("the lot held %d of %s: %d", seen[c.what][e], c.what, e)
			}
		}
	}
}

// Many that left are no burden to who comes later.
func TestMany(t *testing.T) {
	b := book(t, 2)
	is(t, "Enter of one that lingers long", b.Enter(-1, of(1, 9), 0), api.OK)
	is(t, "Leave", b.Leave(-1, great, 0), api.OK)
	const times = 100000
	for i := range int64(times) {
		if e := b.Enter(0, of(1, 1), i); e != api.OK {
			t.Fatalf("P14.1: Enter at %d: %d", i, e)
		}
		if e := b.Ask(of(1, 1), i); e != api.EADMIT {
			t.Fatalf("P14.1: Ask at %d: %d", i, e)
		}
		if e := b.Leave(0, i+1, i); e != api.OK {
			t.Fatalf("P14.1: Leave at %d: %d", i, e)
		}
	}
	lingers(t, "many left", b, times, Entry{-1, of(1, 9), great})
	lingers(t, "many left", b, times-2, Entry{-1, of(1, 9), great}, Entry{0, of(1, 1), times - 1}, Entry{0, of(1, 1), times})
	if n := len(b.Lingers(0)); n != times+1 {
		t.Errorf("P14.1: %d linger at 0, want %d", n, times+1)
	}
	is(t, "Ask at 0", b.Ask(small, 0), api.EFULL)
}
