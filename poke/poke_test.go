package poke

import (
	"math"
	"slices"
	"testing"

	"beadle/api"
	"beadle/mask"
)

// noCPUs are none of n CPUs: below, above, and such that a lesser kind of number would take them for one.
func noCPUs(n int) []int {
	return []int{-1, -2, -64, -256, math.MinInt, -1 << 32, n, n + 1, n + 64, 255, 256, 1 << 16, 1 << 32, 1<<32 + 1, math.MaxInt}
}

// noWords are none that can be told: below, above, and such that some bits of them would be words.
var noWords = []int{0, -1, -2, -15, -16, math.MinInt, math.MinInt + 1, -1 << 32, 16, 17, 31, 32, 255, 256, 257, 1<<16 + 1, 1 << 32, 1<<32 + 1, math.MaxInt}

// made is some new ones.
func made(t *testing.T, cpus int) *Pokes {
	t.Helper()
	p, e := New(cpus)
	if p == nil || e != api.OK {
		t.Fatalf("P9.1: New(%d): %v, %d", cpus, p, e)
	}
	return p
}

// said is what one CPU told another.
type said struct{ from, to, what int }

// plain is what Pokes should be: a list of all that was told and not read, in its order, and one of all who were rung.
type plain struct {
	cpus int
	list []said
	rung []int
}

func (p *plain) has(cpu int) bool { return cpu >= 0 && cpu < p.cpus }

// those are what one was told.
func (p *plain) those(cpu int) []said {
	var l []said
	for _, s := range p.list {
		if s.to == cpu {
			l = append(l, s)
		}
	}
	return l
}

func (p *plain) send(from, to, what int) (bool, api.Errno) {
	if !p.has(from) || !p.has(to) || what < 1 || what > 15 {
		return false, api.EARG
	}
	rings := len(p.those(to)) == 0
	if rings {
		p.rung = append(p.rung, to)
	}
	p.list = append(p.list, said{from, to, what})
	return rings, api.OK
}

func (p *plain) all(from, what int) (mask.Mask, api.Errno) {
	if !p.has(from) || what < 1 || what > 15 {
		return 0, api.EARG
	}
	var rung []int
	for to := p.cpus - 1; to >= 0; to-- {
		if to != from {
			if rings, _ := p.send(from, to, what); rings {
				rung = append(rung, to)
			}
		}
	}
	return mask.Of(rung...), api.OK
}

func (p *plain) read(cpu int) (int, mask.Mask, api.Errno) {
	if !p.has(cpu) {
		return 0, 0, api.EARG
	}
	l := p.those(cpu)
	if len(l) == 0 {
		return 0, 0, api.ENONE
	}
	what, from := words(l), tellers(l)
	p.list = slices.DeleteFunc(p.list, func(s said) bool { return s.to == cpu })
	return what, from, api.OK
}

// words are all words of a list, each counted once.
func words(l []said) int {
	all := 0
	for _, word := range []int{1, 2, 4, 8} {
		if slices.ContainsFunc(l, func(s said) bool { return s.what/word%2 == 1 }) {
			all += word
		}
	}
	return all
}

// tellers are those who told what is in a list.
func tellers(l []said) mask.Mask {
	var from []int
	for _, s := range l {
		from = append(from, s.from)
	}
	return mask.Of(from...)
}

func (p *plain) waits() mask.Mask {
	var to []int
	for _, s := range p.list {
		to = append(to, s.to)
	}
	return mask.Of(to...)
}

func (p *plain) count(cpu int) int64 {
	n := int64(0)
	for _, to := range p.rung {
		if to == cpu {
			n++
		}
	}
	return n
}

// pair is Pokes and what they should be, told the same.
type pair struct {
	t *testing.T
	p *Pokes
	l *plain
}

func paired(t *testing.T, cpus int) pair {
	t.Helper()
	return pair{t, made(t, cpus), &plain{cpus: cpus}}
}

// same asks every call that changes nothing.
func (x pair) same(what string) {
	x.t.Helper()
	if got, want := x.p.Waits(), x.l.waits(); got != want {
		x.t.Fatalf("P9.1: %s: Waits: %s, want %s", what, got, want)
	}
	for cpu := -1; cpu <= x.l.cpus; cpu++ {
		if got, want := x.p.See(cpu), words(x.l.those(cpu)); got != want {
			x.t.Fatalf("P9.1: %s: See(%d): %d, want %d", what, cpu, got, want)
		}
		if got, want := x.p.Count(cpu), x.l.count(cpu); got != want {
			x.t.Fatalf("P9.1: %s: Count(%d): %d, want %d", what, cpu, got, want)
		}
	}
}

func (x pair) send(from, to, what int) {
	x.t.Helper()
	got, e := x.p.Send(from, to, what)
	if want, we := x.l.send(from, to, what); got != want || e != we {
		x.t.Fatalf("P9.1: Send(%d, %d, %d): %v, %d, want %v, %d", from, to, what, got, e, want, we)
	}
	x.same("Send")
}

func (x pair) all(from, what int) {
	x.t.Helper()
	got, e := x.p.All(from, what)
	if want, we := x.l.all(from, what); got != want || e != we {
		x.t.Fatalf("P9.1: All(%d, %d): %s, %d, want %s, %d", from, what, got, e, want, we)
	}
	x.same("All")
}

func (x pair) read(cpu int) {
	x.t.Helper()
	got, from, e := x.p.Read(cpu)
	if want, by, we := x.l.read(cpu); got != want || from != by || e != we {
		x.t.Fatalf("P9.1: Read(%d): %d, %s, %d, want %d, %s, %d", cpu, got, from, e, want, by, we)
	}
	x.same("Read")
}

// sends tells one something, and holds whether it was rung.
func sends(t *testing.T, p *Pokes, from, to, what int, rings bool) {
	t.Helper()
	if got, e := p.Send(from, to, what); got != rings || e != api.OK {
		t.Errorf("P9.1: Send(%d, %d, %d): %v, %d, want %v", from, to, what, got, e, rings)
	}
}

// rings tells all others something, and holds who was rung.
func rings(t *testing.T, p *Pokes, from, what int, want ...int) {
	t.Helper()
	if got, e := p.All(from, what); got != mask.Of(want...) || e != api.OK {
		t.Errorf("P9.1: All(%d, %d): %s, %d, want %v", from, what, got, e, want)
	}
}

// reads reads what one was told, and holds it.
func reads(t *testing.T, p *Pokes, cpu, what int, from ...int) {
	t.Helper()
	if got, by, e := p.Read(cpu); got != what || by != mask.Of(from...) || e != api.OK {
		t.Errorf("P9.1: Read(%d): %d, %s, %d, want %d, %v", cpu, got, by, e, what, from)
	}
}

// readsNot reads where nothing is to be read.
func readsNot(t *testing.T, p *Pokes, cpu int, want api.Errno) {
	t.Helper()
	if got, by, e := p.Read(cpu); got != 0 || by != 0 || e != want {
		t.Errorf("P9.1: Read(%d): %d, %s, %d, want error %d", cpu, got, by, e, want)
	}
}

// stands holds the words that each CPU, from 0 on, was told, with all that says so.
func stands(t *testing.T, p *Pokes, what string, want ...int) {
	t.Helper()
	var some []int
	for cpu, w := range want {
		if got := p.See(cpu); got != w {
			t.Errorf("P9.1: %s: See(%d): %d, want %d", what, cpu, got, w)
		}
		if w > 0 {
			some = append(some, cpu)
		}
	}
	if got := p.Waits(); got != mask.Of(some...) {
		t.Errorf("P9.1: %s: Waits: %s, want %v", what, got, some)
	}
}

// counts holds how often each CPU, from 0 on, was rung.
func counts(t *testing.T, p *Pokes, what string, want ...int64) {
	t.Helper()
	for cpu, w := range want {
		if got := p.Count(cpu); got != w {
			t.Errorf("P9.1: %s: Count(%d): %d, want %d", what, cpu, got, w)
		}
	}
}

func TestExample(t *testing.T) {
	p := made(t, 2)
	sends(t, p, 0, 1, Look, true)
	sends(t, p, 0, 1, Push, false)
	reads(t, p, 1, 3, 0)
}

func TestWords(t *testing.T) {
	if Look != 1 || Push != 2 || Pull != 4 || Stop != 8 {
		t.Errorf("P9.1: the words: %d, %d, %d, %d", Look, Push, Pull, Stop)
	}
}

func TestNew(t *testing.T) {
	for _, n := range []int{math.MinInt, -1 << 32, -64, -1, 0, 65, 66, 128, 1 << 16, 1<<32 + 1, math.MaxInt} {
		if p, e := New(n); p != nil || e != api.EARG {
			t.Errorf("P9.1: New(%d): %v, %d, want nil, EARG", n, p, e)
		}
	}
	for _, n := range []int{1, 2, 3, 63, api.MaxCPUs} {
		p := made(t, n)
		stands(t, p, "new", make([]int, n)...)
		counts(t, p, "new", make([]int64, n)...)
		for cpu := range n {
			readsNot(t, p, cpu, api.ENONE)
			sends(t, p, n-1-cpu, cpu, Stop, true)
		}
		for _, cpu := range noCPUs(n) {
			readsNot(t, p, cpu, api.EARG)
		}
	}
}

func TestTwoAreApart(t *testing.T) {
	a, b := made(t, 2), made(t, 2)
	sends(t, a, 0, 1, Pull, true)
	stands(t, b, "the other", 0, 0)
	counts(t, b, "the other", 0, 0)
	readsNot(t, b, 1, api.ENONE)
	sends(t, b, 1, 1, Look, true)
	reads(t, a, 1, Pull, 0)
	reads(t, b, 1, Look, 1)
}

// refusedBySend holds that a Send is refused, by some that were told something and by new ones.
func refusedBySend(t *testing.T, n, from, to, what int) {
	t.Helper()
	for _, p := range []*Pokes{made(t, n), halfTold(t, n)} {
		seen, counted := seenBy(p, n), countedBy(p, n)
		if got, e := p.Send(from, to, what); got || e != api.EARG {
			t.Errorf("P9.1: Send(%d, %d, %d) of %d: %v, %d, want false, EARG", from, to, what, n, got, e)
		}
		stands(t, p, "Send that is refused", seen...)
		counts(t, p, "Send that is refused", counted...)
	}
}

// refusedByAll holds that an All is refused, by some that were told something and by new ones.
func refusedByAll(t *testing.T, n, from, what int) {
	t.Helper()
	for _, p := range []*Pokes{made(t, n), halfTold(t, n)} {
		seen, counted := seenBy(p, n), countedBy(p, n)
		if got, e := p.All(from, what); got != 0 || e != api.EARG {
			t.Errorf("P9.1: All(%d, %d) of %d: %s, %d, want none, EARG", from, what, n, got, e)
		}
		stands(t, p, "All that is refused", seen...)
		counts(t, p, "All that is refused", counted...)
	}
}

// halfTold are such that each even CPU was told something.
func halfTold(t *testing.T, n int) *Pokes {
	t.Helper()
	p := made(t, n)
	for cpu := 0; cpu < n; cpu += 2 {
		sends(t, p, n-1, cpu, Pull, true)
	}
	return p
}

// seenBy is what See tells of each CPU.
func seenBy(p *Pokes, n int) []int {
	var l []int
	for cpu := range n {
		l = append(l, p.See(cpu))
	}
	return l
}

// countedBy is what Count tells of each CPU.
func countedBy(p *Pokes, n int) []int64 {
	var l []int64
	for cpu := range n {
		l = append(l, p.Count(cpu))
	}
	return l
}

func TestSendRefuses(t *testing.T) {
	for _, n := range []int{1, 2, 5, 63, api.MaxCPUs} {
		for _, none := range noCPUs(n) {
			refusedBySend(t, n, none, 0, Look)
			refusedBySend(t, n, n-1, none, Look)
			refusedBySend(t, n, none, none, Look)
			refusedBySend(t, n, none, n, 16)
		}
		for _, what := range noWords {
			refusedBySend(t, n, 0, n-1, what)
			refusedBySend(t, n, n-1, 0, what)
			refusedBySend(t, n, 0, 0, what)
			refusedBySend(t, n, -1, 0, what)
		}
	}
}

// A Send that was refused has told nobody by whom, either.
func TestRefusedTellsNothing(t *testing.T) {
	p := made(t, 4)
	sends(t, p, 2, 1, Push, true)
	for _, what := range noWords {
		p.Send(0, 1, what)
		p.Send(0, 3, what)
		p.All(3, what)
	}
	for _, cpu := range noCPUs(4) {
		p.Send(cpu, 1, Look)
		p.Send(0, cpu, Look)
		p.All(cpu, Look)
		p.Read(cpu)
	}
	reads(t, p, 1, Push, 2)
	for cpu := range 4 {
		readsNot(t, p, cpu, api.ENONE)
	}
	counts(t, p, "refused", 0, 1, 0, 0)
	sends(t, p, 0, 3, Look, true)
	reads(t, p, 3, Look, 0)
}

func TestSend(t *testing.T) {
	p := made(t, 4)
	sends(t, p, 0, 1, 1, true)
	stands(t, p, "the first time", 0, 1, 0, 0)
	sends(t, p, 0, 1, 4, false)
	stands(t, p, "a second time", 0, 5, 0, 0)
	sends(t, p, 3, 1, 2, false)
	stands(t, p, "by another", 0, 7, 0, 0)
	sends(t, p, 2, 1, 3, false)
	stands(t, p, "of words that it was told", 0, 7, 0, 0)
	sends(t, p, 2, 1, 2, false)
	stands(t, p, "of the same twice", 0, 7, 0, 0)
	sends(t, p, 2, 2, 15, true)
	stands(t, p, "to itself", 0, 7, 15, 0)
	sends(t, p, 2, 2, 15, false)
	counts(t, p, "Send", 0, 1, 1, 0)
	reads(t, p, 2, 15, 2)
	reads(t, p, 1, 7, 0, 2, 3)
	sends(t, p, 3, 1, 8, true)
	sends(t, p, 3, 2, 1, true)
	stands(t, p, "again behind a Read", 0, 8, 1, 0)
	sends(t, p, 1, 0, 6, true)
	counts(t, p, "again behind a Read", 1, 2, 2, 0)
	reads(t, p, 1, 8, 3)
	reads(t, p, 2, 1, 3)
	reads(t, p, 0, 6, 1)
}

// The same word told twice is no other word: told again, it is not added up.
func TestSendOfEachWhatTwice(t *testing.T) {
	for first := 1; first <= 15; first++ {
		for second := 1; second <= 15; second++ {
			p := made(t, 2)
			sends(t, p, 0, 1, first, true)
			sends(t, p, 1, 1, second, false)
			reads(t, p, 1, words([]said{{0, 1, first}, {1, 1, second}}), 0, 1)
			readsNot(t, p, 1, api.ENONE)
		}
	}
}

func TestSendFromEachToEach(t *testing.T) {
	for _, n := range []int{1, 2, 63, api.MaxCPUs} {
		for from := range n {
			p := made(t, n)
			for to := range n {
				sends(t, p, from, to, 1+to%15, true)
			}
			for to := range n {
				reads(t, p, to, 1+to%15, from)
			}
		}
	}
}

func TestAllRefuses(t *testing.T) {
	for _, n := range []int{1, 2, 5, 63, api.MaxCPUs} {
		for _, none := range noCPUs(n) {
			refusedByAll(t, n, none, Look)
			refusedByAll(t, n, none, 15)
			refusedByAll(t, n, none, 0)
		}
		for _, what := range noWords {
			refusedByAll(t, n, 0, what)
			refusedByAll(t, n, n-1, what)
		}
	}
}

func TestAll(t *testing.T) {
	p := made(t, 5)
	rings(t, p, 2, Pull, 0, 1, 3, 4)
	stands(t, p, "All", 4, 4, 0, 4, 4)
	counts(t, p, "All", 1, 1, 0, 1, 1)
	rings(t, p, 2, Pull)
	rings(t, p, 2, Look)
	stands(t, p, "All again", 5, 5, 0, 5, 5)
	counts(t, p, "All again", 1, 1, 0, 1, 1)
	rings(t, p, 4, Stop, 2)
	stands(t, p, "All by another", 13, 13, 8, 13, 5)
	counts(t, p, "All by another", 1, 1, 1, 1, 1)
	reads(t, p, 4, 5, 2)
	reads(t, p, 2, 8, 4)
	reads(t, p, 0, 13, 2, 4)
	rings(t, p, 1, 15, 0, 2, 4)
	stands(t, p, "All behind Reads", 15, 13, 15, 15, 15)
	counts(t, p, "All behind Reads", 2, 1, 2, 1, 2)
	reads(t, p, 1, 13, 2, 4)
	reads(t, p, 3, 15, 1, 2, 4)
	reads(t, p, 0, 15, 1)
}

// One who tells all is not rung, whether it was told something ahead or not, and keeps what it was told.
func TestAllTellsNotItself(t *testing.T) {
	p := made(t, 3)
	sends(t, p, 1, 1, Push, true)
	sends(t, p, 0, 2, Look, true)
	rings(t, p, 1, Stop, 0)
	stands(t, p, "one told itself ahead", 8, 2, 9)
	reads(t, p, 1, Push, 1)
	rings(t, p, 1, Stop)
	readsNot(t, p, 1, api.ENONE)
	reads(t, p, 2, 9, 0, 1)
	rings(t, p, 0, Pull, 1, 2)
	counts(t, p, "one told itself ahead", 1, 2, 2)
}

func TestAllOfOneAlone(t *testing.T) {
	p := made(t, 1)
	for what := 1; what <= 15; what++ {
		rings(t, p, 0, what)
	}
	stands(t, p, "one alone", 0)
	counts(t, p, "one alone", 0)
	readsNot(t, p, 0, api.ENONE)
	sends(t, p, 0, 0, Look, true)
	rings(t, p, 0, Push)
	reads(t, p, 0, Look, 0)
}

func TestAllOf64(t *testing.T) {
	for _, from := range []int{0, 1, 31, 32, 62, 63} {
		p := made(t, api.MaxCPUs)
		others := mask.Full(64).Without(from)
		rings(t, p, from, 15, others.List()...)
		if got := p.Waits(); got != others {
			t.Errorf("P9.1: Waits behind All(%d, 15): %s", from, got)
		}
		rings(t, p, from, 15)
		sends(t, p, from, from, 1, true)
		if got := p.Waits(); got != mask.Full(64) {
			t.Errorf("P9.1: Waits, if all were told something: %s", got)
		}
		for cpu := range 64 {
			if others.Has(cpu) {
				reads(t, p, cpu, 15, from)
			} else {
				reads(t, p, cpu, 1, from)
			}
		}
		stands(t, p, "all have read", make([]int, 64)...)
		rings(t, p, from, 2, others.List()...)
	}
}

func TestRead(t *testing.T) {
	p := made(t, 4)
	sends(t, p, 0, 3, Push, true)
	sends(t, p, 3, 0, Pull, true)
	sends(t, p, 1, 3, Stop, false)
	sends(t, p, 3, 3, Push, false)
	for _, cpu := range noCPUs(4) {
		readsNot(t, p, cpu, api.EARG)
	}
	readsNot(t, p, 1, api.ENONE)
	readsNot(t, p, 2, api.ENONE)
	stands(t, p, "Read that is refused", 4, 0, 0, 10)
	reads(t, p, 3, 10, 0, 1, 3)
	readsNot(t, p, 3, api.ENONE)
	stands(t, p, "Read", 4, 0, 0, 0)
	sends(t, p, 2, 3, Look, true)
	reads(t, p, 3, Look, 2)
	readsNot(t, p, 3, api.ENONE)
	reads(t, p, 0, Pull, 3)
	readsNot(t, p, 0, api.ENONE)
	counts(t, p, "Read", 1, 0, 0, 2)
}

// All words by all CPUs.
func TestReadOfAll(t *testing.T) {
	p := made(t, api.MaxCPUs)
	for from := range 64 {
		sends(t, p, from, 63, 1<<(from%4), from == 0)
	}
	reads(t, p, 63, 15, mask.Full(64).List()...)
	readsNot(t, p, 63, api.ENONE)
	sends(t, p, 63, 0, Stop, true)
	reads(t, p, 0, Stop, 63)
}

func TestSee(t *testing.T) {
	p := made(t, 4)
	see := func(what string) {
		t.Helper()
		for _, cpu := range noCPUs(4) {
			if got := p.See(cpu); got != 0 {
				t.Errorf("P9.1: %s: See(%d): %d, want 0", what, cpu, got)
			}
		}
		if got := p.See(1); got != 0 {
			t.Errorf("P9.1: %s: See of one that was told nothing: %d", what, got)
		}
	}
	see("new")
	sends(t, p, 0, 2, Look, true)
	sends(t, p, 3, 2, Stop, false)
	sends(t, p, 2, 2, Stop, false)
	for range 3 {
		see("told")
		if got := p.See(2); got != 9 {
			t.Errorf("P9.1: See of several words: %d, want 9", got)
		}
	}
	// What was seen can be read still, and no ring of it has gone.
	sends(t, p, 1, 2, Look, false)
	reads(t, p, 2, 9, 0, 1, 2, 3)
	if got := p.See(2); got != 0 {
		t.Errorf("P9.1: See behind a Read: %d", got)
	}
	counts(t, p, "See", 0, 0, 1, 0)
}

func TestWaits(t *testing.T) {
	p := made(t, api.MaxCPUs)
	waits := func(what string, want mask.Mask) {
		t.Helper()
		for range 2 {
			if got := p.Waits(); got != want {
				t.Errorf("P9.1: %s: Waits: %s, want %s", what, got, want)
			}
		}
	}
	waits("none", 0)
	sends(t, p, 0, 63, Look, true)
	waits("the last one", 1<<63)
	sends(t, p, 63, 0, Look, true)
	sends(t, p, 5, 31, Look, true)
	sends(t, p, 5, 32, Look, true)
	waits("some", 1<<63|1<<32|1<<31|1)
	p.Send(64, 5, Look)
	p.Send(5, 64, Look)
	p.Send(5, 5, 16)
	waits("refused", 1<<63|1<<32|1<<31|1)
	reads(t, p, 63, Look, 0)
	reads(t, p, 31, Look, 5)
	waits("behind a Read", 1<<32|1)
	rings(t, p, 32, Stop, mask.Full(64).Without(0).Without(32).List()...)
	waits("all", math.MaxUint64)
	for cpu := range 64 {
		p.Read(cpu)
	}
	waits("none again", 0)
	one := made(t, 1)
	sends(t, one, 0, 0, Look, true)
	if got := one.Waits(); got != 1 {
		t.Errorf("P9.1: Waits of one alone: %s", got)
	}
}

func TestCount(t *testing.T) {
	p := made(t, 4)
	counts(t, p, "new", 0, 0, 0, 0)
	sends(t, p, 0, 1, Look, true)
	counts(t, p, "a Send that rang", 0, 1, 0, 0)
	sends(t, p, 0, 1, Push, false)
	sends(t, p, 2, 1, Look, false)
	counts(t, p, "Sends that did not ring", 0, 1, 0, 0)
	rings(t, p, 3, Stop, 0, 2)
	counts(t, p, "All", 1, 1, 1, 0)
	reads(t, p, 1, 11, 0, 2, 3)
	counts(t, p, "a Read", 1, 1, 1, 0)
	readsNot(t, p, 1, api.ENONE)
	readsNot(t, p, 3, api.ENONE)
	counts(t, p, "a Read of nothing", 1, 1, 1, 0)
	sends(t, p, 1, 1, Pull, true)
	counts(t, p, "another Send that rang", 1, 2, 1, 0)
	for range 1000 {
		p.Read(1)
		p.Send(0, 1, Stop)
	}
	counts(t, p, "many", 1, 1002, 1, 0)
	for _, cpu := range noCPUs(4) {
		p.Send(0, cpu, Look)
		if got := p.Count(cpu); got != 0 {
			t.Errorf("P9.1: Count(%d): %d, want 0", cpu, got)
		}
	}
	counts(t, p, "refused", 1, 1002, 1, 0)
}

// TestByLot holds many steps against a plain list: of few CPUs, who are often told something ahead, and of many.
func TestByLot(t *testing.T) {
	lot := uint64(1)
	below := func(n int) int {
		lot = lot*6364136223846793005 + 1442695040888963407
		return int(lot >> 33 % uint64(n))
	}
	for _, n := range []int{1, 2, 3, 8, 63, 64} {
		x := paired(t, n)
		// Of each kind of argument a few are wrong.
		none := noCPUs(n)
		cpu := func() int {
			if below(20) == 0 {
				return none[below(len(none))]
			}
			return below(n)
		}
		for range 1500 {
			what := below(18) - 1
			switch below(10) {
			case 0:
				x.all(cpu(), what)
			case 1, 2, 3, 4:
				x.send(cpu(), cpu(), what)
			default:
				x.read(cpu())
			}
		}
	}
}
