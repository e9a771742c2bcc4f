package alarm

import (
	"math"
	"slices"
	"testing"

	"beadle/api"
)

const lastID = 1023

// noCPUs are none of n CPUs: below, above, and such that a lesser kind of number would take them for one.
func noCPUs(n int) []int {
	return []int{-1, -2, -64, math.MinInt, -1 << 32, n, n + 1, 255, 256, 1 << 32, math.MaxInt}
}

// noIDs may not be armed.
var noIDs = []int{-1, -2, -1024, math.MinInt, -1 << 32, 1024, 1025, 2048, 1 << 16, 1 << 32, math.MaxInt}

// made is some new ones.
func made(t *testing.T, cpus int) *Alarms {
	t.Helper()
	a, e := New(cpus)
	if a == nil || e != api.OK {
		t.Fatalf("P7.1: New(%d): %v, %d", cpus, a, e)
	}
	return a
}

// plain is what Alarms should be: a list that is looked through.
type plain struct {
	cpus int
	now  int64
	list []Ring
}

func (p *plain) has(cpu int) bool { return cpu >= 0 && cpu < p.cpus }

func (p *plain) find(cpu, id int) int {
	return slices.IndexFunc(p.list, func(r Ring) bool { return r.CPU == cpu && r.ID == id })
}

func (p *plain) arm(cpu, id int, at int64) api.Errno {
	if !p.has(cpu) || id < 0 || id > lastID || at < p.now || at > api.Horizon {
		return api.EARG
	}
	p.cancel(cpu, id)
	p.list = append(p.list, Ring{cpu, id, at})
	return api.OK
}

func (p *plain) cancel(cpu, id int) bool {
	i := p.find(cpu, id)
	if i < 0 {
		return false
	}
	p.list = slices.Delete(p.list, i, i+1)
	return true
}

func (p *plain) move(cpu, to, id int) api.Errno {
	if !p.has(cpu) || !p.has(to) {
		return api.EARG
	}
	i := p.find(cpu, id)
	if i < 0 {
		return api.ENONE
	}
	at := p.list[i].At
	p.cancel(cpu, id)
	p.cancel(to, id)
	p.list = append(p.list, Ring{to, id, at})
	return api.OK
}

// least is the least tick of those that are asked for.
func (p *plain) least(asked func(Ring) bool) (int64, bool) {
	least, some := int64(0), false
	for _, r := range p.list {
		if asked(r) && (!some || r.At < least) {
			least, some = r.At, true
		}
	}
	return least, some
}

func (p *plain) register(cpu int) (int64, bool) {
	return p.least(func(r Ring) bool { return r.CPU == cpu })
}

func (p *plain) next() (int64, bool) { return p.least(func(Ring) bool { return true }) }

// earlier tells whether x is told ahead of y.
func earlier(x, y Ring) bool {
	if x.At != y.At {
		return x.At < y.At
	}
	if x.CPU != y.CPU {
		return x.CPU < y.CPU
	}
	return x.ID < y.ID
}

func (p *plain) to(now int64) ([]Ring, api.Errno) {
	if now < p.now || now > api.Horizon {
		return nil, api.EARG
	}
	p.now = now
	var rung, rest []Ring
	for _, r := range p.list {
		if r.At > now {
			rest = append(rest, r)
			continue
		}
		at := 0
		for at < len(rung) && earlier(rung[at], r) {
			at++
		}
		rung = slices.Insert(rung, at, r)
	}
	p.list = rest
	return rung, api.OK
}

// pair is Alarms and what they should be, told the same.
type pair struct {
	t *testing.T
	a *Alarms
	p *plain
}

func paired(t *testing.T, cpus int) pair {
	t.Helper()
	return pair{t, made(t, cpus), &plain{cpus: cpus}}
}

// same asks every call that changes nothing.
func (x pair) same(what string) {
	x.t.Helper()
	if got := x.a.Now(); got != x.p.now {
		x.t.Fatalf("P7.1: %s: Now: %d, want %d", what, got, x.p.now)
	}
	got, ok := x.a.Next()
	if want, some := x.p.next(); got != want || ok != some {
		x.t.Fatalf("P7.1: %s: Next: %d, %v, want %d, %v", what, got, ok, want, some)
	}
	for cpu := -1; cpu <= x.p.cpus; cpu++ {
		got, ok := x.a.Register(cpu)
		if want, some := x.p.register(cpu); got != want || ok != some {
			x.t.Fatalf("P7.1: %s: Register(%d): %d, %v, want %d, %v", what, cpu, got, ok, want, some)
		}
	}
}

func (x pair) arm(cpu, id int, at int64) {
	x.t.Helper()
	if got, want := x.a.Arm(cpu, id, at), x.p.arm(cpu, id, at); got != want {
		x.t.Fatalf("P7.1: Arm(%d, %d, %d): %d, want %d", cpu, id, at, got, want)
	}
	x.same("Arm")
}

func (x pair) cancel(cpu, id int) {
	x.t.Helper()
	if got, want := x.a.Cancel(cpu, id), x.p.cancel(cpu, id); got != want {
		x.t.Fatalf("P7.1: Cancel(%d, %d): %v, want %v", cpu, id, got, want)
	}
	x.same("Cancel")
}

func (x pair) move(cpu, to, id int) {
	x.t.Helper()
	if got, want := x.a.Move(cpu, to, id), x.p.move(cpu, to, id); got != want {
		x.t.Fatalf("P7.1: Move(%d, %d, %d): %d, want %d", cpu, to, id, got, want)
	}
	x.same("Move")
}

func (x pair) to(now int64) {
	x.t.Helper()
	got, e := x.a.To(now)
	if want, we := x.p.to(now); !slices.Equal(got, want) || e != we {
		x.t.Fatalf("P7.1: To(%d): %v, %d, want %v, %d", now, got, e, want, we)
	}
	x.same("To")
}

// armed arms one that may be armed.
func armed(t *testing.T, a *Alarms, cpu, id int, at int64) {
	t.Helper()
	if e := a.Arm(cpu, id, at); e != api.OK {
		t.Errorf("P7.1: Arm(%d, %d, %d): %d, want OK", cpu, id, at, e)
	}
}

// registers asks for each CPU's register (-1: none) and for the least of them.
func registers(t *testing.T, a *Alarms, what string, want ...int64) {
	t.Helper()
	least := int64(-1)
	for cpu, w := range want {
		told(t, what, "Register", a.Register, cpu, w)
		if w >= 0 && (least < 0 || w < least) {
			least = w
		}
	}
	told(t, what, "Next", func(int) (int64, bool) { return a.Next() }, 0, least)
}

// told asks one register.
func told(t *testing.T, what, call string, ask func(int) (int64, bool), cpu int, want int64) {
	t.Helper()
	at, ok := ask(cpu)
	if want < 0 && (at != 0 || ok) || want >= 0 && (at != want || !ok) {
		t.Errorf("P7.1: %s: %s of %d: %d, %v, want %d", what, call, cpu, at, ok, want)
	}
}

// rings goes to a tick, and asks for what rang.
func rings(t *testing.T, a *Alarms, now int64, want ...Ring) {
	t.Helper()
	got, e := a.To(now)
	if e != api.OK || !slices.Equal(got, want) || a.Now() != now {
		t.Errorf("P7.1: To(%d): %v, %d, Now %d, want %v", now, got, e, a.Now(), want)
	}
}

func TestExample(t *testing.T) {
	a := made(t, 1)
	armed(t, a, 0, 7, 5)
	rings(t, a, 5, Ring{0, 7, 5})
}

func TestNew(t *testing.T) {
	for _, n := range []int{math.MinInt, -1 << 32, -64, -1, 0, 65, 66, 128, 1 << 16, 1<<32 + 1, math.MaxInt} {
		if a, e := New(n); a != nil || e != api.EARG {
			t.Errorf("P7.1: New(%d): %v, %d, want nil, EARG", n, a, e)
		}
	}
	for _, n := range []int{1, 2, 3, 63, api.MaxCPUs} {
		a := made(t, n)
		if a.Now() != 0 {
			t.Errorf("P7.1: New(%d): Now %d", n, a.Now())
		}
		none := slices.Repeat([]int64{-1}, n)
		registers(t, a, "new", none...)
		for cpu := range n {
			armed(t, a, cpu, cpu, int64(cpu))
		}
		for _, cpu := range noCPUs(n) {
			if e := a.Arm(cpu, 0, 1); e != api.EARG {
				t.Errorf("P7.1: New(%d): Arm of cpu %d: %d", n, cpu, e)
			}
		}
		armed(t, made(t, n), n-1, lastID, 0)
	}
}

func TestTwoAreApart(t *testing.T) {
	a, b := made(t, 2), made(t, 2)
	armed(t, a, 0, 1, 5)
	registers(t, b, "the other", -1, -1)
	rings(t, b, 9)
	if a.Now() != 0 {
		t.Errorf("P7.1: Now of one behind To of another: %d", a.Now())
	}
	rings(t, a, 9, Ring{0, 1, 5})
}

func TestArmRefuses(t *testing.T) {
	a := made(t, 3)
	rings(t, a, 10)
	armed(t, a, 1, 4, 50)
	refused := func(cpu, id int, at int64) {
		t.Helper()
		if e := a.Arm(cpu, id, at); e != api.EARG {
			t.Errorf("P7.1: Arm(%d, %d, %d): %d, want EARG", cpu, id, at, e)
		}
		registers(t, a, "Arm that is refused", -1, 50, -1)
	}
	for _, cpu := range noCPUs(3) {
		refused(cpu, 4, 20)
	}
	for _, id := range noIDs {
		refused(1, id, 20)
	}
	for _, at := range []int64{9, 8, 1, 0, -1, math.MinInt64, api.Horizon + 1, api.Horizon + 2, 2 * (api.Horizon - 1), math.MaxInt64} {
		refused(1, 4, at)
		refused(0, 4, at)
	}
	refused(-1, -1, -1)
	rings(t, a, api.Horizon, Ring{1, 4, 50})
}

func TestArmEdges(t *testing.T) {
	a := made(t, 2)
	armed(t, a, 0, 0, 0)
	armed(t, a, 1, lastID, 0)
	rings(t, a, 0, Ring{0, 0, 0}, Ring{1, lastID, 0})
	rings(t, a, 10)
	armed(t, a, 0, 0, 10)
	armed(t, a, 0, lastID, api.Horizon)
	armed(t, a, 1, lastID, 11)
	armed(t, a, 1, 0, api.Horizon)
	registers(t, a, "edges", 10, 11)
	rings(t, a, 10, Ring{0, 0, 10})
	rings(t, a, api.Horizon-1, Ring{1, lastID, 11})
	registers(t, a, "at Horizon", api.Horizon, api.Horizon)
	rings(t, a, api.Horizon, Ring{0, lastID, api.Horizon}, Ring{1, 0, api.Horizon})
	// At Horizon there is still that tick.
	if e := a.Arm(0, 1, api.Horizon-1); e != api.EARG {
		t.Errorf("P7.1: Arm below Now at Horizon: %d", e)
	}
	armed(t, a, 0, 1, api.Horizon)
	rings(t, a, api.Horizon, Ring{0, 1, api.Horizon})
	rings(t, a, api.Horizon)
}

func TestArmAnew(t *testing.T) {
	a := made(t, 2)
	armed(t, a, 0, 7, 20)
	armed(t, a, 1, 7, 25)
	armed(t, a, 0, 7, 10)
	registers(t, a, "to an earlier one", 10, 25)
	armed(t, a, 0, 7, 30)
	registers(t, a, "to a later one", 30, 25)
	armed(t, a, 0, 7, 30)
	registers(t, a, "to the same", 30, 25)
	rings(t, a, 29, Ring{1, 7, 25})
	rings(t, a, 30, Ring{0, 7, 30})
	rings(t, a, 99)
	armed(t, a, 0, 7, 100)
	armed(t, a, 0, 7, 99)
	rings(t, a, 200, Ring{0, 7, 99})
}

func TestAllAtOnce(t *testing.T) {
	const n = api.MaxCPUs
	a := made(t, n)
	var want []Ring
	for cpu := range n {
		for id := range lastID + 1 {
			armed(t, a, cpu, id, int64((cpu*31+id*17)%97))
			want = append(want, Ring{cpu, id, int64((cpu*31 + id*17) % 97)})
		}
	}
	// Full as they are, all may be armed anew.
	for i, r := range want {
		want[i].At = 96 - r.At
		armed(t, a, r.CPU, r.ID, want[i].At)
	}
	slices.SortFunc(want, func(x, y Ring) int {
		if earlier(x, y) {
			return -1
		}
		return 1
	})
	early := slices.IndexFunc(want, func(r Ring) bool { return r.At > 40 })
	rings(t, a, 40, want[:early]...)
	if at, ok := a.Next(); at != 41 || !ok {
		t.Errorf("P7.1: Next: %d, %v, want 41", at, ok)
	}
	rings(t, a, 96, want[early:]...)
	registers(t, a, "all rang", slices.Repeat([]int64{-1}, n)...)
}

func TestCancel(t *testing.T) {
	a := made(t, 2)
	armed(t, a, 0, 7, 5)
	armed(t, a, 0, 8, 6)
	armed(t, a, 1, 7, 7)
	armed(t, a, 1, 0, 0)
	none := func(cpu, id int) {
		t.Helper()
		if a.Cancel(cpu, id) {
			t.Errorf("P7.1: Cancel(%d, %d) of none: true", cpu, id)
		}
	}
	for _, cpu := range noCPUs(2) {
		none(cpu, 7)
	}
	for _, id := range noIDs {
		none(0, id)
	}
	none(0, 0)
	none(1, 8)
	none(-1, -1)
	registers(t, a, "Cancel of none", 5, 0)
	if !a.Cancel(0, 7) {
		t.Errorf("P7.1: Cancel of one that is armed: false")
	}
	none(0, 7)
	registers(t, a, "Cancel", 6, 0)
	if !a.Cancel(1, 0) {
		t.Errorf("P7.1: Cancel of one that is armed for now: false")
	}
	none(1, 0)
	registers(t, a, "Cancel", 6, 7)
	rings(t, a, 6, Ring{0, 8, 6})
	none(0, 8)
	// One that does not ring may be armed again.
	armed(t, a, 0, 7, 6)
	rings(t, a, 9, Ring{0, 7, 6}, Ring{1, 7, 7})
	none(1, 7)
}

func TestMoveRefuses(t *testing.T) {
	a := made(t, 3)
	armed(t, a, 0, 7, 5)
	armed(t, a, 1, 8, 6)
	refused := func(cpu, to, id int, want api.Errno) {
		t.Helper()
		if e := a.Move(cpu, to, id); e != want {
			t.Errorf("P7.1: Move(%d, %d, %d): %d, want %d", cpu, to, id, e, want)
		}
		registers(t, a, "Move that is refused", 5, 6, -1)
	}
	for _, none := range noCPUs(3) {
		refused(none, 0, 7, api.EARG)
		refused(none, 0, 9, api.EARG)
		refused(0, none, 7, api.EARG)
		refused(0, none, 9, api.EARG)
		refused(none, none, 7, api.EARG)
	}
	for _, id := range noIDs {
		refused(0, 1, id, api.ENONE)
		refused(0, -1, id, api.EARG)
	}
	refused(0, 1, 8, api.ENONE)
	refused(1, 0, 7, api.ENONE)
	refused(2, 0, 7, api.ENONE)
	refused(2, 1, 8, api.ENONE)
	refused(2, 2, 7, api.ENONE)
	refused(0, 0, 0, api.ENONE)
	rings(t, a, 9, Ring{0, 7, 5}, Ring{1, 8, 6})
	if e := a.Move(0, 1, 7); e != api.ENONE {
		t.Errorf("P7.1: Move of one that rang: %d", e)
	}
}

// moved moves one that may be moved.
func moved(t *testing.T, a *Alarms, cpu, to, id int) {
	t.Helper()
	if e := a.Move(cpu, to, id); e != api.OK {
		t.Errorf("P7.1: Move(%d, %d, %d): %d, want OK", cpu, to, id, e)
	}
}

func TestMove(t *testing.T) {
	a := made(t, 3)
	armed(t, a, 0, 7, 5)
	armed(t, a, 0, 8, 9)
	moved(t, a, 0, 2, 7)
	registers(t, a, "to where none is", 9, -1, 5)
	if a.Cancel(0, 7) {
		t.Errorf("P7.1: Move leaves it armed where it was")
	}
	moved(t, a, 2, 2, 7)
	registers(t, a, "to where it is", 9, -1, 5)
	armed(t, a, 1, 8, 30)
	moved(t, a, 1, 0, 8)
	registers(t, a, "in place of an earlier one", 30, -1, 5)
	armed(t, a, 1, 7, 3)
	moved(t, a, 1, 2, 7)
	registers(t, a, "in place of a later one", 30, -1, 3)
	armed(t, a, 1, 8, 40)
	moved(t, a, 0, 1, 8)
	registers(t, a, "in place of a later one", -1, 30, 3)
	rings(t, a, 99, Ring{2, 7, 3}, Ring{1, 8, 30})
}

func TestMoveEdges(t *testing.T) {
	a := made(t, api.MaxCPUs)
	const last = api.MaxCPUs - 1
	for id := range lastID + 1 {
		armed(t, a, 0, id, int64(id))
		armed(t, a, last, id, api.Horizon)
	}
	// Full as they are, one may be moved in place of another.
	moved(t, a, 0, last, 0)
	moved(t, a, last, 0, lastID)
	moved(t, a, 0, 0, 5)
	told(t, "full", "Register", a.Register, 0, 1)
	told(t, "full", "Register", a.Register, last, 0)
	rings(t, a, 1, Ring{last, 0, 0}, Ring{0, 1, 1})
	// An armed one keeps its tick, even if that is Now.
	armed(t, a, 0, 1, 1)
	moved(t, a, 0, 3, 1)
	rings(t, a, 2, Ring{3, 1, 1}, Ring{0, 2, 2})
	got, e := a.To(1023)
	if e != api.OK || len(got) != 1020 || got[0] != (Ring{0, 3, 3}) || got[1019] != (Ring{0, 1022, 1022}) {
		t.Errorf("P7.1: To(1023): %d rang, %d", len(got), e)
	}
	told(t, "the last id", "Register", a.Register, 0, api.Horizon)
}

func TestRegister(t *testing.T) {
	a := made(t, 4)
	for _, cpu := range noCPUs(4) {
		told(t, "none", "Register", a.Register, cpu, -1)
	}
	armed(t, a, 3, 9, api.Horizon)
	registers(t, a, "one", -1, -1, -1, api.Horizon)
	armed(t, a, 0, 2, 8)
	armed(t, a, 0, 1, 12)
	armed(t, a, 0, 3, 7)
	armed(t, a, 1, 5, 0)
	registers(t, a, "several", 7, 0, -1, api.Horizon)
	for _, cpu := range noCPUs(4) {
		told(t, "several", "Register", a.Register, cpu, -1)
	}
	// A register at 0 is not one of none.
	told(t, "at 0", "Next", func(int) (int64, bool) { return a.Next() }, 0, 0)
	a.Cancel(0, 3)
	registers(t, a, "Cancel of the first", 8, 0, -1, api.Horizon)
	a.Cancel(0, 1)
	registers(t, a, "Cancel of another", 8, 0, -1, api.Horizon)
	registers(t, a, "asked again", 8, 0, -1, api.Horizon)
}

func TestNext(t *testing.T) {
	a := made(t, 3)
	next := func(want int64) {
		t.Helper()
		told(t, "Next", "Next", func(int) (int64, bool) { return a.Next() }, 0, want)
	}
	next(-1)
	armed(t, a, 2, 1, 30)
	next(30)
	armed(t, a, 0, 1, 40)
	next(30)
	armed(t, a, 1, 1, 20)
	next(20)
	armed(t, a, 0, 2, 10)
	next(10)
	armed(t, a, 2, 2, 10)
	a.Cancel(0, 2)
	next(10)
	a.Cancel(2, 2)
	next(20)
	rings(t, a, 20, Ring{1, 1, 20})
	next(30)
	rings(t, a, 39, Ring{2, 1, 30})
	next(40)
	a.Cancel(0, 1)
	next(-1)
}

func TestToRefuses(t *testing.T) {
	a := made(t, 2)
	rings(t, a, 10)
	armed(t, a, 0, 1, 10)
	armed(t, a, 1, 1, api.Horizon)
	for _, now := range []int64{9, 0, -1, math.MinInt64, api.Horizon + 1, api.Horizon + 10, math.MaxInt64} {
		if l, e := a.To(now); len(l) != 0 || e != api.EARG || a.Now() != 10 {
			t.Errorf("P7.1: To(%d): %v, %d, Now %d, want EARG", now, l, e, a.Now())
		}
		registers(t, a, "To that is refused", 10, api.Horizon)
	}
	rings(t, a, 10, Ring{0, 1, 10})
	rings(t, a, api.Horizon, Ring{1, 1, api.Horizon})
	if l, e := a.To(api.Horizon - 1); len(l) != 0 || e != api.EARG || a.Now() != api.Horizon {
		t.Errorf("P7.1: To below Horizon: %v, %d, Now %d", l, e, a.Now())
	}
}

func TestTo(t *testing.T) {
	a := made(t, 2)
	rings(t, a, 0)
	armed(t, a, 0, 1, 10)
	armed(t, a, 1, 1, 20)
	rings(t, a, 0)
	rings(t, a, 9)
	rings(t, a, 15, Ring{0, 1, 10})
	rings(t, a, 15)
	rings(t, a, 19)
	rings(t, a, 20, Ring{1, 1, 20})
	rings(t, a, 20)
	registers(t, a, "what rang is gone", -1, -1)
	armed(t, a, 1, 1, 20)
	rings(t, a, 20, Ring{1, 1, 20})
	rings(t, a, 1000)
}

func TestOrder(t *testing.T) {
	want := []Ring{
		{2, 1023, 3},
		{0, 0, 4}, {0, 5, 4}, {0, 1023, 4}, {1, 0, 4}, {1, 4, 4}, {2, 1, 4},
		{0, 1, 5}, {2, 0, 5},
		{1, 2, 6}, {1, 3, 6},
		{0, 2, api.Horizon}, {0, 3, api.Horizon}, {2, 2, api.Horizon},
	}
	// Strides that come by all fourteen, so that they are armed in several orders.
	for _, by := range []int{1, 3, 5, 9, 11, 13} {
		a := made(t, 3)
		for i := range want {
			r := want[i*by%len(want)]
			armed(t, a, r.CPU, r.ID, r.At)
		}
		rings(t, a, api.Horizon, want...)
	}
}

func TestAnswersAreApart(t *testing.T) {
	a := made(t, 2)
	armed(t, a, 0, 1, 1)
	armed(t, a, 0, 2, 1)
	armed(t, a, 1, 1, 1)
	first, _ := a.To(1)
	kept := slices.Clone(first)
	armed(t, a, 1, 9, 2)
	armed(t, a, 0, 9, 2)
	second, _ := a.To(2)
	if !slices.Equal(first, kept) {
		t.Errorf("R4: an answer is changed by the next one: %v", first)
	}
	for i := range second[:cap(second)] {
		second[:cap(second)][i] = Ring{7, 7, 7}
	}
	if !slices.Equal(first, kept) {
		t.Errorf("R4: two answers share memory: %v", first)
	}
	armed(t, a, 0, 1, 3)
	rings(t, a, 3, Ring{0, 1, 3})
	if second[0] != (Ring{7, 7, 7}) {
		t.Errorf("R4: an answer is written to: %v", second)
	}
}

// TestByLot holds many steps against a list that is looked through.
func TestByLot(t *testing.T) {
	lot := uint64(1)
	draw := func(n int) int {
		lot = lot*6364136223846793005 + 1442695040888963407
		return int(lot >> 33 % uint64(n))
	}
	for _, cpus := range []int{1, 2, 3, 7, 64} {
		x := paired(t, cpus)
		for range 6000 {
			cpu, id := draw(cpus+2)-1, draw(8)*146-1
			switch draw(8) {
			case 0, 1, 2, 3:
				x.arm(cpu, id, x.p.now+int64(draw(40))-2)
			case 4:
				x.cancel(cpu, id)
			case 5, 6:
				x.move(cpu, draw(cpus+2)-1, id)
			case 7:
				x.to(x.p.now + int64(draw(12)) - 2)
			}
		}
		x.to(api.Horizon - 30)
		for range 500 {
			x.arm(draw(cpus), draw(1024), api.Horizon-32+int64(draw(35)))
			x.move(draw(cpus), draw(cpus), draw(1024))
		}
		x.to(api.Horizon - 7)
		x.to(api.Horizon + 1)
		x.to(api.Horizon)
	}
}
