package turn

import (
	"maps"
	"math"
	"slices"
	"testing"

	"beadle/api"
)

// most is the last ticket ahead of 0.
const most = math.MaxUint32

// starts are tickets to begin at: the first ones, those about the midst, and those from which they soon go round.
var starts = []uint32{0, 1, 1<<31 - 3, 1<<31 - 1, 1 << 31, most - 70, most - 5, most - 4, most - 3, most - 2, most - 1, most}

// nobody are none who may draw: below, above, and such that a lesser kind of number would take them for one.
var nobody = []int{-1, -2, -255, -256, math.MinInt, -1 << 32, 256, 257, 511, 512, 1 << 16, 1 << 32, 1<<32 + 3, math.MaxInt}

// begun is a lock as it is when so many tickets have been drawn, and all freed. (It sets what is to be seen of a Lock,
// as to draw four thousand million tickets takes too long.)
func begun(start uint32) *Lock {
	l := New()
	l.Next, l.Serves = start, start
	return l
}

// held is a ticket that somebody has.
type held struct {
	who    int
	ticket uint32
}

// plain is what a Lock should be: a list of who has a ticket, in the order of drawing; the first one is served.
type plain struct {
	next uint32
	row  []held
}

func (p *plain) find(who int) int {
	return slices.IndexFunc(p.row, func(h held) bool { return h.who == who })
}

func (p *plain) serves() uint32 {
	if len(p.row) == 0 {
		return p.next
	}
	return p.row[0].ticket
}

func (p *plain) draw(who int) (uint32, api.Errno) {
	if p.find(who) >= 0 {
		return 0, api.EBUSY
	}
	if who < 0 || who > 255 {
		return 0, api.EARG
	}
	if len(p.row) == 64 {
		return 0, api.EFULL
	}
	ticket := p.next
	p.row = append(p.row, held{who, ticket})
	if p.next == most {
		p.next = 0
	} else {
		p.next++
	}
	return ticket, api.OK
}

// takeOut takes one out: the first one alone, or one of the others alone.
func (p *plain) takeOut(who int, first bool) api.Errno {
	at := p.find(who)
	if at < 0 {
		return api.ENONE
	}
	if (at == 0) != first {
		return api.EBUSY
	}
	p.row = slices.Delete(p.row, at, at+1)
	return api.OK
}

// pair is a lock and what it should be, told the same.
type pair struct {
	t *testing.T
	l *Lock
	p *plain
}

func paired(t *testing.T, start uint32) pair { return pair{t, begun(start), &plain{next: start}} }

// same holds all that is to be seen of a lock, by its fields and by the calls that change nothing.
func (x pair) same(what string) {
	x.t.Helper()
	by := map[int]uint32{}
	for _, h := range x.p.row {
		by[h.who] = h.ticket
	}
	if x.l.Next != x.p.next || x.l.Serves != x.p.serves() || !maps.Equal(x.l.By, by) {
		x.t.Fatalf("P8.1: %s: %v, want %d, %d, %v", what, *x.l, x.p.next, x.p.serves(), by)
	}
	if got := x.l.Len(); got != len(by) {
		x.t.Fatalf("P8.1: %s: Len: %d, want %d", what, got, len(by))
	}
	for who := -1; who <= 256; who++ {
		x.place(what, who)
	}
	if x.l.Next != x.p.next || x.l.Serves != x.p.serves() || !maps.Equal(x.l.By, by) {
		x.t.Fatalf("P8.1: %s: asking has changed it: %v", what, *x.l)
	}
}

// place asks where one is.
func (x pair) place(what string, who int) {
	x.t.Helper()
	at := x.p.find(who)
	if got := x.l.Ahead(who); got != at {
		x.t.Fatalf("P8.1: %s: Ahead(%d): %d, want %d", what, who, got, at)
	}
	if got := x.l.Has(who); got != (at == 0) {
		x.t.Fatalf("P8.1: %s: Has(%d): %v, want %v", what, who, got, at == 0)
	}
}

func (x pair) draw(who int) api.Errno {
	x.t.Helper()
	got, e := x.l.Draw(who)
	want, we := x.p.draw(who)
	if got != want || e != we {
		x.t.Fatalf("P8.1: Draw(%d): %d, %d, want %d, %d", who, got, e, want, we)
	}
	x.same("Draw")
	return e
}

func (x pair) free(who int) api.Errno {
	x.t.Helper()
	e, want := x.l.Free(who), x.p.takeOut(who, true)
	if e != want {
		x.t.Fatalf("P8.1: Free(%d): %d, want %d", who, e, want)
	}
	x.same("Free")
	return e
}

func (x pair) leave(who int) api.Errno {
	x.t.Helper()
	e, want := x.l.Leave(who), x.p.takeOut(who, false)
	if e != want {
		x.t.Fatalf("P8.1: Leave(%d): %d, want %d", who, e, want)
	}
	x.same("Leave")
	return e
}

// drawn draws for some.
func (x pair) drawn(who ...int) {
	x.t.Helper()
	for _, w := range who {
		answers(x.t, "Draw", w, x.draw(w), api.OK)
	}
}

// answers holds an answer that was written by hand.
func answers(t *testing.T, call string, who int, got, want api.Errno) {
	t.Helper()
	if got != want {
		t.Errorf("P8.1: %s(%d): %d, want %d", call, who, got, want)
	}
}

// draws draws a ticket, and holds the answer.
func draws(t *testing.T, l *Lock, who int, want uint32, e api.Errno) {
	t.Helper()
	if got, ge := l.Draw(who); got != want || ge != e {
		t.Errorf("P8.1: Draw(%d): %d, %d, want %d, %d", who, got, ge, want, e)
	}
}

// stands holds what a lock tells: its two numbers, and who has a ticket, in the order of their turns.
func stands(t *testing.T, l *Lock, what string, next, serves uint32, row ...held) {
	t.Helper()
	if l.Next != next || l.Serves != serves || l.Len() != len(row) || len(l.By) != len(row) {
		t.Errorf("P8.1: %s: Next %d, Serves %d, Len %d, By %v, want %d, %d, %v", what, l.Next, l.Serves, l.Len(), l.By, next, serves, row)
	}
	for at, h := range row {
		if ticket, ok := l.By[h.who]; ticket != h.ticket || !ok {
			t.Errorf("P8.1: %s: the ticket of %d: %d, %v, want %d", what, h.who, ticket, ok, h.ticket)
		}
		if l.Ahead(h.who) != at || l.Has(h.who) != (at == 0) {
			t.Errorf("P8.1: %s: of %d: Ahead %d, Has %v, want %d", what, h.who, l.Ahead(h.who), l.Has(h.who), at)
		}
	}
}

func TestExample(t *testing.T) {
	l := New()
	draws(t, l, 3, 0, api.OK)
	draws(t, l, 5, 1, api.OK)
	if !l.Has(3) || l.Has(5) {
		t.Errorf("P8.1: Has(3): %v, Has(5): %v", l.Has(3), l.Has(5))
	}
	stands(t, l, "example", 2, 0, held{3, 0}, held{5, 1})
}

func TestNew(t *testing.T) {
	l := New()
	if l.Next != 0 || l.Serves != 0 || len(l.By) != 0 || l.Len() != 0 {
		t.Errorf("P8.1: New: %v", *l)
	}
	for who := -1; who <= 256; who++ {
		if l.Has(who) || l.Ahead(who) != -1 {
			t.Errorf("P8.1: New: Has(%d): %v, Ahead %d", who, l.Has(who), l.Ahead(who))
		}
		answers(t, "Free", who, l.Free(who), api.ENONE)
		answers(t, "Leave", who, l.Leave(who), api.ENONE)
	}
	stands(t, l, "New", 0, 0)
}

func TestTwoAreApart(t *testing.T) {
	a, b := New(), New()
	draws(t, a, 1, 0, api.OK)
	draws(t, a, 2, 1, api.OK)
	stands(t, b, "another", 0, 0)
	draws(t, b, 2, 0, api.OK)
	answers(t, "Leave", 2, a.Leave(2), api.OK)
	answers(t, "Free", 1, a.Free(1), api.OK)
	stands(t, a, "one", 2, 2)
	stands(t, b, "another", 1, 0, held{2, 0})
	answers(t, "Free", 1, b.Free(1), api.ENONE)
}

func TestDraw(t *testing.T) {
	l := New()
	draws(t, l, 255, 0, api.OK)
	draws(t, l, 0, 1, api.OK)
	draws(t, l, 254, 2, api.OK)
	draws(t, l, 1, 3, api.OK)
	row := []held{{255, 0}, {0, 1}, {254, 2}, {1, 3}}
	stands(t, l, "Draw", 4, 0, row...)
	for _, who := range nobody {
		draws(t, l, who, 0, api.EARG)
		stands(t, l, "Draw of none", 4, 0, row...)
	}
	for _, h := range row {
		draws(t, l, h.who, 0, api.EBUSY)
		stands(t, l, "Draw of one that has a ticket", 4, 0, row...)
	}
	answers(t, "Free", 255, l.Free(255), api.OK)
	draws(t, l, 255, 4, api.OK)
	stands(t, l, "Draw behind a Free", 5, 1, held{0, 1}, held{254, 2}, held{1, 3}, held{255, 4})
	answers(t, "Leave", 254, l.Leave(254), api.OK)
	draws(t, l, 254, 5, api.OK)
	stands(t, l, "Draw behind a Leave", 6, 1, held{0, 1}, held{1, 3}, held{255, 4}, held{254, 5})
}

func TestDrawOfNobodyInANewOne(t *testing.T) {
	for _, who := range nobody {
		l := New()
		draws(t, l, who, 0, api.EARG)
		stands(t, l, "Draw of none", 0, 0)
		if l.Has(who) || l.Ahead(who) != -1 {
			t.Errorf("P8.1: of %d, that is none: Has %v, Ahead %d", who, l.Has(who), l.Ahead(who))
		}
		draws(t, l, 3, 0, api.OK)
	}
}

func TestDrawWhenFull(t *testing.T) {
	for _, start := range starts {
		x := paired(t, start)
		for i := range 64 {
			x.drawn(i * 4)
		}
		full := func() {
			t.Helper()
			answers(t, "Draw of one more", 2, x.draw(2), api.EFULL)
			answers(t, "Draw of one more", 255, x.draw(255), api.EFULL)
			for i := range 64 {
				if who := x.p.row[i].who; x.draw(who) != api.EBUSY {
					t.Errorf("P8.1: Draw(%d), that has a ticket, when full", who)
				}
			}
			for _, who := range nobody {
				answers(t, "Draw when full", who, x.draw(who), api.EARG)
			}
		}
		full()
		answers(t, "Free", 0, x.free(0), api.OK)
		answers(t, "Draw behind a Free", 1, x.draw(1), api.OK)
		full()
		answers(t, "Leave", 100, x.leave(100), api.OK)
		answers(t, "Draw behind a Leave", 100, x.draw(100), api.OK)
		full()
	}
}

func TestDrawGoesRound(t *testing.T) {
	l := begun(most - 1)
	for i, want := range []uint32{most - 1, most, 0, 1} {
		draws(t, l, 10-i, want, api.OK)
	}
	stands(t, l, "past the last ticket", 2, most-1, held{10, most - 1}, held{9, most}, held{8, 0}, held{7, 1})
	l = begun(most)
	draws(t, l, 4, most, api.OK)
	stands(t, l, "the last ticket", 0, most, held{4, most})
	draws(t, l, 4, 0, api.EBUSY)
	draws(t, l, 256, 0, api.EARG)
	stands(t, l, "refused at the last ticket", 0, most, held{4, most})
}

func TestHas(t *testing.T) {
	l := New()
	has := func(what string, want ...int) {
		t.Helper()
		for who := -1; who <= 256; who++ {
			if l.Has(who) != slices.Contains(want, who) {
				t.Errorf("P8.1: %s: Has(%d): %v", what, who, l.Has(who))
			}
		}
		for _, who := range nobody {
			if l.Has(who) {
				t.Errorf("P8.1: %s: Has(%d): true", what, who)
			}
		}
	}
	has("new")
	l.Draw(0)
	has("one", 0)
	l.Draw(255)
	l.Draw(7)
	has("others wait", 0)
	l.Free(0)
	has("the next one's turn", 255)
	l.Leave(7)
	has("one that waited left", 255)
	l.Free(255)
	// Who has no ticket is not served, though Serves is a ticket.
	has("nobody")
	l.Draw(7)
	has("one again", 7)
}

func TestFreeRefuses(t *testing.T) {
	for _, start := range starts {
		x := paired(t, start)
		x.drawn(3, 5, 0)
		for _, who := range append([]int{1, 4, 255}, nobody...) {
			answers(t, "Free", who, x.free(who), api.ENONE)
		}
		for _, who := range []int{5, 0} {
			answers(t, "Free", who, x.free(who), api.EBUSY)
		}
		answers(t, "Free", 3, x.free(3), api.OK)
		answers(t, "Free twice", 3, x.free(3), api.ENONE)
		answers(t, "Leave", 0, x.leave(0), api.OK)
		answers(t, "Free of one that left", 0, x.free(0), api.ENONE)
	}
}

func TestFree(t *testing.T) {
	l := New()
	for _, who := range []int{9, 2, 7, 4, 30, 1} {
		l.Draw(who)
	}
	answers(t, "Free", 9, l.Free(9), api.OK)
	stands(t, l, "others behind it", 6, 1, held{2, 1}, held{7, 2}, held{4, 3}, held{30, 4}, held{1, 5})
	l.Leave(7)
	l.Leave(30)
	answers(t, "Free", 2, l.Free(2), api.OK)
	stands(t, l, "gaps just behind it and further on", 6, 3, held{4, 3}, held{1, 5})
	answers(t, "Free", 4, l.Free(4), api.OK)
	stands(t, l, "a gap just behind it", 6, 5, held{1, 5})
	answers(t, "Free", 1, l.Free(1), api.OK)
	stands(t, l, "nobody behind it", 6, 6)
	draws(t, l, 8, 6, api.OK)
	draws(t, l, 9, 7, api.OK)
	draws(t, l, 3, 8, api.OK)
	l.Leave(9)
	l.Leave(3)
	answers(t, "Free", 8, l.Free(8), api.OK)
	stands(t, l, "gaps alone behind it", 9, 9)
}

func TestFreeGoesRound(t *testing.T) {
	l := begun(most - 2)
	for _, who := range []int{9, 2, 7, 4, 30, 1} {
		l.Draw(who)
	}
	stands(t, l, "six", 3, most-2, held{9, most - 2}, held{2, most - 1}, held{7, most}, held{4, 0}, held{30, 1}, held{1, 2})
	answers(t, "Free", 9, l.Free(9), api.OK)
	stands(t, l, "others behind it", 3, most-1, held{2, most - 1}, held{7, most}, held{4, 0}, held{30, 1}, held{1, 2})
	l.Leave(7)
	l.Leave(4)
	answers(t, "Free", 2, l.Free(2), api.OK)
	stands(t, l, "a gap over the last ticket", 3, 1, held{30, 1}, held{1, 2})
	answers(t, "Free", 30, l.Free(30), api.OK)
	answers(t, "Free", 1, l.Free(1), api.OK)
	stands(t, l, "nobody behind it", 3, 3)
	l = begun(most)
	l.Draw(6)
	answers(t, "Free", 6, l.Free(6), api.OK)
	stands(t, l, "nobody behind the last ticket", 0, 0)
	l = begun(most)
	l.Draw(6)
	l.Draw(5)
	answers(t, "Free", 6, l.Free(6), api.OK)
	stands(t, l, "0 behind the last ticket", 1, 0, held{5, 0})
}

// The order of turns is that of the tickets, not that of who has them.
func TestFreeWithEachGap(t *testing.T) {
	for _, start := range starts {
		for gaps := range 1 << 5 {
			x := paired(t, start)
			row := []int{200, 3, 255, 0, 77, 4}
			x.drawn(row...)
			for i := range 5 {
				if gaps>>i&1 == 1 {
					answers(t, "Leave", row[i+1], x.leave(row[i+1]), api.OK)
				}
			}
			for len(x.p.row) > 0 {
				who := x.p.row[0].who
				answers(t, "Free", who, x.free(who), api.OK)
			}
			if x.l.Serves != start+6 || x.l.Next != start+6 {
				t.Errorf("P8.1: all gone: %v", *x.l)
			}
			x.drawn(3)
		}
	}
}

func TestLeaveRefuses(t *testing.T) {
	for _, start := range starts {
		x := paired(t, start)
		x.drawn(3, 5, 0)
		for _, who := range append([]int{1, 4, 255}, nobody...) {
			answers(t, "Leave", who, x.leave(who), api.ENONE)
		}
		answers(t, "Leave at its turn", 3, x.leave(3), api.EBUSY)
		answers(t, "Leave", 5, x.leave(5), api.OK)
		answers(t, "Leave twice", 5, x.leave(5), api.ENONE)
		answers(t, "Free", 3, x.free(3), api.OK)
		answers(t, "Leave of one that is free", 3, x.leave(3), api.ENONE)
		answers(t, "Leave of the only one", 0, x.leave(0), api.EBUSY)
	}
}

func TestLeave(t *testing.T) {
	for _, c := range []struct {
		what string
		who  int
		row  []held
	}{
		{"the first that waits", 8, []held{{6, 0}, {2, 2}, {4, 3}, {3, 4}}},
		{"one in the midst", 2, []held{{6, 0}, {8, 1}, {4, 3}, {3, 4}}},
		{"another in the midst", 4, []held{{6, 0}, {8, 1}, {2, 2}, {3, 4}}},
		{"the last", 3, []held{{6, 0}, {8, 1}, {2, 2}, {4, 3}}},
	} {
		for _, start := range starts {
			l := begun(start)
			for _, who := range []int{6, 8, 2, 4, 3} {
				l.Draw(who)
			}
			answers(t, "Leave", c.who, l.Leave(c.who), api.OK)
			row := slices.Clone(c.row)
			for i := range row {
				row[i].ticket += start
			}
			stands(t, l, c.what, start+5, start, row...)
			if l.Has(c.who) || l.Ahead(c.who) != -1 {
				t.Errorf("P8.1: %s: it has a ticket still", c.what)
			}
			// A ticket that was given back is not drawn again: not even the last one.
			draws(t, l, c.who, start+5, api.OK)
		}
	}
}

func TestAhead(t *testing.T) {
	ahead := func(l *Lock, what string, want ...int) {
		t.Helper()
		for who, n := range want {
			if got := l.Ahead(who); got != n {
				t.Errorf("P8.1: %s: Ahead(%d): %d, want %d", what, who, got, n)
			}
		}
		for _, who := range append([]int{255}, nobody...) {
			if got := l.Ahead(who); got != -1 {
				t.Errorf("P8.1: %s: Ahead(%d): %d, want -1", what, who, got)
			}
		}
	}
	for _, start := range starts {
		l := begun(start)
		ahead(l, "new", -1, -1, -1, -1, -1, -1, -1)
		for _, who := range []int{4, 0, 5, 1, 3, 2} {
			l.Draw(who)
		}
		ahead(l, "six", 1, 3, 5, 4, 0, 2, -1)
		l.Leave(0)
		ahead(l, "the first that waits left", -1, 2, 4, 3, 0, 1, -1)
		l.Leave(1)
		ahead(l, "one in the midst left", -1, -1, 3, 2, 0, 1, -1)
		l.Draw(0)
		ahead(l, "one drew again", 4, -1, 3, 2, 0, 1, -1)
		l.Free(4)
		ahead(l, "the next one's turn", 3, -1, 2, 1, -1, 0, -1)
		l.Leave(0)
		ahead(l, "the last left", -1, -1, 2, 1, -1, 0, -1)
		l.Free(5)
		ahead(l, "the next one's turn, behind a gap", -1, -1, 1, 0, -1, -1, -1)
		l.Free(3)
		ahead(l, "one", -1, -1, 0, -1, -1, -1, -1)
		l.Free(2)
		ahead(l, "none", -1, -1, -1, -1, -1, -1, -1)
	}
}

func TestAheadWhenFull(t *testing.T) {
	for _, start := range starts {
		x := paired(t, start)
		for i := range 64 {
			x.drawn(255 - i*3)
		}
		if got := x.l.Ahead(255 - 63*3); got != 63 {
			t.Errorf("P8.1: Ahead of the last of 64: %d", got)
		}
		for i := 1; i < 63; i += 2 {
			x.leave(255 - i*3)
		}
		if got := x.l.Ahead(255 - 63*3); got != 32 {
			t.Errorf("P8.1: Ahead of the last of 64, with gaps: %d", got)
		}
	}
}

func TestLen(t *testing.T) {
	l := New()
	length := func(what string, want int) {
		t.Helper()
		if got := l.Len(); got != want {
			t.Errorf("P8.1: Len behind %s: %d, want %d", what, got, want)
		}
	}
	length("New", 0)
	for who := range 64 {
		l.Draw(who)
		length("Draw", who+1)
	}
	l.Draw(64)
	l.Draw(0)
	l.Draw(-1)
	length("Draw that is refused", 64)
	l.Leave(63)
	length("Leave of the last", 63)
	l.Leave(1)
	length("Leave of the first that waits", 62)
	l.Leave(0)
	l.Leave(1)
	length("Leave that is refused", 62)
	l.Free(2)
	l.Free(1)
	length("Free that is refused", 62)
	l.Free(0)
	length("Free", 61)
	l.Has(2)
	l.Ahead(2)
	length("Has and Ahead", 61)
	for who := 2; who < 63; who++ {
		l.Free(who)
		length("Free", 62-who)
	}
}

// One that is served long, while others come and go, is served still, and the gaps behind it are passed over.
func TestLongTurn(t *testing.T) {
	for _, start := range []uint32{0, most - 500} {
		x := paired(t, start)
		x.drawn(9)
		for i := range 1000 {
			x.drawn(i % 9)
			answers(t, "Leave", i%9, x.leave(i%9), api.OK)
		}
		x.drawn(200)
		answers(t, "Leave", 9, x.leave(9), api.EBUSY)
		answers(t, "Free", 9, x.free(9), api.OK)
		if x.l.Serves != start+1001 || !x.l.Has(200) {
			t.Errorf("P8.1: behind a long gap: %v", *x.l)
		}
	}
}

// TestByLot holds many steps against a plain list: with few people, so that they often have a ticket, and with many, so
// that there is often no room.
func TestByLot(t *testing.T) {
	lot := uint64(1)
	below := func(n int) int {
		lot = lot*6364136223846793005 + 1442695040888963407
		return int(lot >> 33 % uint64(n))
	}
	for _, start := range []uint32{0, 1<<31 - 500, most - 500} {
		for _, many := range []int{2, 5, 20, 258} {
			x := paired(t, start)
			for range 3000 {
				who := below(many+1) - 1
				switch what := below(10); {
				case what < 5:
					x.draw(who)
				case what < 6:
					x.free(who)
				case what < 8 && len(x.p.row) > 0:
					x.free(x.p.row[0].who)
				case what < 9 && len(x.p.row) > 0:
					x.leave(x.p.row[below(len(x.p.row))].who)
				default:
					x.leave(who)
				}
			}
		}
	}
}
