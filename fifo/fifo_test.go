package fifo

import (
	"math"
	"slices"
	"testing"
)

// filled is a row with room for most and these in it, put in in their order.
func filled(t *testing.T, most int, values ...int) *Fifo {
	t.Helper()
	f := New(most)
	for i, v := range values {
		if !f.Put(v) {
			t.Fatalf("P6.1: Put number %d of %v into New(%d) is refused", i, values, most)
		}
	}
	return f
}

// first is what Get and Front should tell of a row.
func first(row []int) (int, bool) {
	if len(row) == 0 {
		return 0, false
	}
	return row[0], true
}

// placeIn is where the first v of a row should be.
func placeIn(row []int, v int) int {
	for i, x := range row {
		if x == v {
			return i
		}
	}
	return -1
}

// holds asks f, by every call that changes nothing, whether it is just what is wanted, in that order.
func holds(t *testing.T, f *Fifo, what string, want ...int) {
	t.Helper()
	if got := f.All(); !slices.Equal(got, want) {
		t.Errorf("P6.1: %s: All: %v, want %v", what, got, want)
	}
	if got := f.Len(); got != len(want) {
		t.Errorf("P6.1: %s: Len: %d, want %d", what, got, len(want))
	}
	v, there := first(want)
	if got, ok := f.Front(); got != v || ok != there {
		t.Errorf("P6.1: %s: Front: %d, %v, want %d, %v", what, got, ok, v, there)
	}
	for _, v := range want {
		if got := f.Place(v); got != placeIn(want, v) {
			t.Errorf("P6.1: %s: Place(%d): %d, want %d", what, v, got, placeIn(want, v))
		}
	}
}

// gets takes one out of f, and asks whether it is the one that is wanted.
func gets(t *testing.T, f *Fifo, what string, want int) {
	t.Helper()
	if got, ok := f.Get(); got != want || !ok {
		t.Errorf("P6.1: %s: Get: %d, %v, want %d, true", what, got, ok, want)
	}
}

// empties takes all out of f, and asks whether they come in the order that is wanted.
func empties(t *testing.T, f *Fifo, what string, want ...int) {
	t.Helper()
	for i, v := range want {
		gets(t, f, what, v)
		holds(t, f, what, want[i+1:]...)
	}
	if got, ok := f.Get(); got != 0 || ok {
		t.Errorf("P6.1: %s: Get of none: %d, %v", what, got, ok)
	}
	holds(t, f, what)
}

// isFull asks whether f refuses one more, and stays what it is.
func isFull(t *testing.T, f *Fifo, what string, want ...int) {
	t.Helper()
	for _, v := range []int{0, 1, 9, -1, math.MinInt, math.MaxInt} {
		if f.Put(v) {
			t.Errorf("P6.1: %s: Put(%d) into a full one: true", what, v)
		}
		holds(t, f, what, want...)
	}
}

func TestExample(t *testing.T) {
	f := New(8)
	if a, b, c := f.Put(1), f.Put(2), f.Turn(); !a || !b || !c {
		t.Errorf("P6.1: Put 1, Put 2, Turn: %v, %v, %v", a, b, c)
	}
	holds(t, f, "Put 1, Put 2, Turn", 2, 1)
}

func TestNewHoldsItsRoom(t *testing.T) {
	for _, c := range []struct{ most, room int }{
		{math.MinInt, 1}, {-1 << 32, 1}, {-256, 1}, {-1, 1}, {0, 1}, {1, 1}, {2, 2}, {3, 3}, {255, 255}, {256, 256},
		{257, 256}, {512, 256}, {1 << 16, 256}, {1 << 32, 256}, {1<<32 + 1, 256}, {math.MaxInt - 1, 256}, {math.MaxInt, 256},
	} {
		f := New(c.most)
		holds(t, f, "new")
		var want []int
		for i := range c.room {
			if !f.Put(-i) {
				t.Fatalf("P6.1: New(%d): Put number %d is refused", c.most, i)
			}
			want = append(want, -i)
		}
		isFull(t, f, "New", want...)
	}
}

func TestPut(t *testing.T) {
	f := New(4)
	var want []int
	for _, v := range []int{7, -7, 7, 0} {
		if !f.Put(v) {
			t.Errorf("P6.1: Put(%d) with room for it: false", v)
		}
		want = append(want, v)
		holds(t, f, "Put", want...)
	}
	edges := []int{math.MaxInt, 0, math.MinInt, -1, 1}
	f = filled(t, 5, edges...)
	holds(t, f, "Put of any numbers", edges...)
	empties(t, f, "Put of any numbers", edges...)
}

func TestPutBehindRoomIsMade(t *testing.T) {
	f := filled(t, 3, 1, 2, 3)
	isFull(t, f, "full", 1, 2, 3)
	gets(t, f, "full", 1)
	if !f.Put(4) {
		t.Errorf("P6.1: Put behind a Get: false")
	}
	isFull(t, f, "Put behind a Get", 2, 3, 4)
	if !f.Drop(3) || !f.Put(5) {
		t.Errorf("P6.1: Put behind a Drop is refused")
	}
	isFull(t, f, "Put behind a Drop", 2, 4, 5)
	if f.Drop(9) || f.Put(9) {
		t.Errorf("P6.1: Drop of none makes room")
	}
	f.Turn()
	isFull(t, f, "Turn makes no room", 4, 5, 2)
	f.Front()
	f.Place(4)
	isFull(t, f, "Front and Place make no room", 4, 5, 2)
	f.Get()
	f.Drop(2)
	if a, b, c := f.Put(6), f.Put(7), f.Put(8); !a || !b || c {
		t.Errorf("P6.1: Put behind a Get and a Drop: %v, %v, %v", a, b, c)
	}
	holds(t, f, "Put behind a Get and a Drop", 5, 6, 7)
}

func TestRoomForOne(t *testing.T) {
	f := New(1)
	for v := range 5 {
		if !f.Put(v) {
			t.Errorf("P6.1: Put(%d) into room for one: false", v)
		}
		isFull(t, f, "room for one", v)
		if !f.Turn() {
			t.Errorf("P6.1: Turn of one: false")
		}
		isFull(t, f, "room for one, turned", v)
		if v%2 == 0 {
			gets(t, f, "room for one", v)
		} else if !f.Drop(v) {
			t.Errorf("P6.1: Drop(%d) of the only one: false", v)
		}
		holds(t, f, "room for one, gone")
	}
}

func TestOfNone(t *testing.T) {
	fresh, got, dropped := New(3), filled(t, 3, 5, 6, 7), filled(t, 3, 5, 6, 7)
	for range 3 {
		got.Get()
	}
	for v := range 3 {
		dropped.Drop(v + 5)
	}
	for i, f := range []*Fifo{fresh, got, dropped} {
		if v, ok := f.Get(); v != 0 || ok {
			t.Errorf("P6.1: row %d: Get of none: %d, %v", i, v, ok)
		}
		if v, ok := f.Front(); v != 0 || ok {
			t.Errorf("P6.1: row %d: Front of none: %d, %v", i, v, ok)
		}
		if f.Turn() {
			t.Errorf("P6.1: row %d: Turn of none: true", i)
		}
		for _, v := range []int{0, 1, 5, 6, 7, -1, math.MinInt, math.MaxInt} {
			if f.Drop(v) || f.Place(v) != -1 {
				t.Errorf("P6.1: row %d: of none: Drop(%d) or Place(%d): %d", i, v, v, f.Place(v))
			}
		}
		holds(t, f, "of none")
		if !f.Put(8) {
			t.Errorf("P6.1: row %d: Put behind refusals: false", i)
		}
		holds(t, f, "put behind refusals", 8)
	}
}

func TestGetAndFront(t *testing.T) {
	one := filled(t, 4, 9)
	holds(t, one, "one", 9)
	empties(t, one, "one", 9)
	for _, row := range [][]int{{1, 2, 3, 4}, {4, 3, 2, 1}, {2, 2, 1, 2}, {0, 0, 0, 0}} {
		f := filled(t, 4, row...)
		for range 3 {
			if v, ok := f.Front(); v != row[0] || !ok {
				t.Errorf("P6.1: Front of %v: %d, %v", row, v, ok)
			}
		}
		holds(t, f, "Front takes nothing", row...)
		empties(t, f, "in order", row...)
	}
}

// A nought that is there is told apart from none by the bool alone.
func TestNoughtIsThere(t *testing.T) {
	f := filled(t, 2, 0, 0)
	if v, ok := f.Front(); v != 0 || !ok {
		t.Errorf("P6.1: Front of 0: %d, %v", v, ok)
	}
	gets(t, f, "0", 0)
	if f.Place(0) != 0 || !f.Turn() || !f.Drop(0) || f.Drop(0) {
		t.Errorf("P6.1: Place, Turn and Drop of 0")
	}
	holds(t, f, "0, gone")
}

func TestDrop(t *testing.T) {
	for _, c := range []struct {
		row  []int
		v    int
		want []int
		ok   bool
	}{
		{[]int{1, 2, 3}, 1, []int{2, 3}, true},
		{[]int{1, 2, 3}, 2, []int{1, 3}, true},
		{[]int{1, 2, 3}, 3, []int{1, 2}, true},
		{[]int{1, 2, 3}, 0, []int{1, 2, 3}, false},
		{[]int{1, 2, 3}, 4, []int{1, 2, 3}, false},
		{[]int{1, 2, 3}, -1, []int{1, 2, 3}, false},
		{[]int{1, 2, 3}, math.MinInt, []int{1, 2, 3}, false},
		{[]int{5, 7, 5, 8}, 5, []int{7, 5, 8}, true},
		{[]int{7, 5, 8, 5}, 5, []int{7, 8, 5}, true},
		{[]int{7, 5, 5, 8}, 5, []int{7, 5, 8}, true},
		{[]int{9, 5, 7, 5, 8, 5}, 5, []int{9, 7, 5, 8, 5}, true},
		{[]int{5, 5, 5}, 5, []int{5, 5}, true},
		{[]int{6}, 6, nil, true},
		{[]int{6}, 5, []int{6}, false},
	} {
		f := filled(t, len(c.row), c.row...)
		if ok := f.Drop(c.v); ok != c.ok {
			t.Errorf("P6.1: Drop(%d) of %v: %v", c.v, c.row, ok)
		}
		holds(t, f, "Drop", c.want...)
		empties(t, f, "Drop", c.want...)
	}
}

func TestDropTwice(t *testing.T) {
	f := filled(t, 5, 4, 5, 6, 5, 4)
	for i, c := range []struct {
		v    int
		ok   bool
		want []int
	}{
		{5, true, []int{4, 6, 5, 4}},
		{5, true, []int{4, 6, 4}},
		{5, false, []int{4, 6, 4}},
		{4, true, []int{6, 4}},
		{4, true, []int{6}},
		{4, false, []int{6}},
		{6, true, nil},
		{6, false, nil},
	} {
		if ok := f.Drop(c.v); ok != c.ok {
			t.Errorf("P6.1: number %d: Drop(%d): %v", i, c.v, ok)
		}
		holds(t, f, "Drop again", c.want...)
	}
}

func TestTurn(t *testing.T) {
	for _, row := range [][]int{{1}, {1, 2}, {1, 2, 3}, {3, 3, 1, 3}, {5, 4, 3, 2, 1, 0}} {
		for _, most := range []int{len(row), len(row) + 1, 256} {
			f := filled(t, most, row...)
			for i := range 2*len(row) + 1 {
				at := i % len(row)
				holds(t, f, "Turn", append(slices.Clone(row[at:]), row[:at]...)...)
				if !f.Turn() {
					t.Errorf("P6.1: Turn number %d of %v: false", i, row)
				}
			}
			empties(t, f, "turned round twice, and once", append(slices.Clone(row[1:]), row[0])...)
		}
	}
}

func TestPlace(t *testing.T) {
	f := filled(t, 6, 8, 5, 7, 5, 0, 8)
	for _, c := range []struct{ v, want int }{
		{8, 0}, {5, 1}, {7, 2}, {0, 4}, {1, -1}, {-5, -1}, {6, -1}, {math.MinInt, -1}, {math.MaxInt, -1},
	} {
		if got := f.Place(c.v); got != c.want {
			t.Errorf("P6.1: Place(%d): %d, want %d", c.v, got, c.want)
		}
	}
	f.Turn()
	f.Drop(5)
	for _, c := range []struct{ v, want int }{{7, 0}, {5, 1}, {0, 2}, {8, 3}} {
		if got := f.Place(c.v); got != c.want {
			t.Errorf("P6.1: Place(%d) behind Turn and Drop: %d, want %d", c.v, got, c.want)
		}
	}
	f.Get()
	if f.Place(7) != -1 || f.Place(5) != 0 {
		t.Errorf("P6.1: Place behind a Get: %d, %d", f.Place(7), f.Place(5))
	}
	holds(t, f, "Place takes nothing", 5, 0, 8, 8)
}

func TestPlaceInTheGreatestRow(t *testing.T) {
	f := New(256)
	for v := range 256 {
		f.Put(v)
	}
	for v := range 256 {
		if got := f.Place(v); got != v {
			t.Errorf("P6.1: Place(%d) of 256: %d", v, got)
		}
	}
	if f.Place(256) != -1 || !f.Drop(255) || f.Place(255) != -1 || f.Len() != 255 {
		t.Errorf("P6.1: the last one of 256: %d", f.Place(255))
	}
}

func TestAllIsNewMemory(t *testing.T) {
	f := filled(t, 8, 1, 2, 3, 4)
	f.Get()
	first, second := f.All(), f.All()
	room := first[:cap(first)]
	for i := range room {
		room[i] = 99
	}
	if !slices.Equal(second, []int{2, 3, 4}) {
		t.Errorf("R4: two answers of All share memory: %v", second)
	}
	holds(t, f, "All was written over", 2, 3, 4)
	longer := append(f.All(), 77)
	f.Put(5)
	holds(t, f, "an answer of All was made longer", 2, 3, 4, 5)
	if longer[3] != 77 {
		t.Errorf("R4: Put changes what stands behind an answer of All: %v", longer)
	}
	kept := f.All()
	f.Turn()
	f.Drop(4)
	f.Get()
	f.Put(6)
	if !slices.Equal(kept, []int{2, 3, 4, 5}) {
		t.Errorf("R4: an answer of All has changed: %v", kept)
	}
	holds(t, f, "behind All", 5, 2, 6)
}

// What is answered of none has no room that a later Put would come to.
func TestAllOfNoneIsNewMemory(t *testing.T) {
	f := filled(t, 4, 1, 2)
	f.Get()
	f.Get()
	none := append(f.All(), 99)
	f.Put(3)
	holds(t, f, "an answer of none was made longer", 3)
	if none[0] != 99 {
		t.Errorf("R4: Put changes what stands behind an answer of none: %v", none)
	}
}

func TestRowsAreApart(t *testing.T) {
	a, b := filled(t, 2, 1, 2), New(2)
	if !b.Put(1) {
		t.Errorf("R5: Put into another row: false")
	}
	a.Turn()
	a.Drop(1)
	holds(t, a, "one row", 2)
	holds(t, b, "another row", 1)
}

func TestManyRounds(t *testing.T) {
	for _, most := range []int{1, 2, 3, 7, 255, 256} {
		f := New(most)
		for v := range most {
			f.Put(v)
		}
		for v := most; v < most+2000; v++ {
			gets(t, f, "many rounds", v-most)
			if !f.Put(v) || f.Put(-1) {
				t.Fatalf("P6.1: round %d of New(%d): a full row has room, or one behind a Get has none", v, most)
			}
			if f.Place(v-most) != -1 || f.Place(v) != most-1 || f.Len() != most {
				t.Fatalf("P6.1: round %d of New(%d): the elder one at %d, the new one at %d, of %d", v, most, f.Place(v-most), f.Place(v), f.Len())
			}
		}
		for range 1999 * most {
			f.Turn()
		}
		var want []int
		for v := range most {
			want = append(want, 2000+v)
		}
		isFull(t, f, "many rounds", want...)
		if cap(f.row) > 2*mostRoom {
			t.Errorf("P6.1: New(%d) keeps %d numbers behind many rounds", most, cap(f.row))
		}
		for _, old := range f.row[len(f.row):cap(f.row)] {
			if old != 0 {
				t.Errorf("P6.1: New(%d) keeps %d, that is gone", most, old)
			}
		}
		empties(t, f, "many rounds", want...)
	}
}

// dice are numbers by lot, the same ones in each run.
type dice uint64

func (d *dice) below(n int) int {
	*d = *d*6364136223846793005 + 1442695040888963407
	return int(uint64(*d) >> 33 % uint64(n))
}

// step does one thing, by lot, to a row, holds its answer against a plain list, and answers what the list is then.
func step(t *testing.T, d *dice, f *Fifo, most int, list []int) []int {
	t.Helper()
	v := d.below(most+3) - 1
	head, some := first(list)
	switch what := d.below(10); {
	case what < 5:
		if got := f.Put(v); got != (len(list) < most) {
			t.Fatalf("P6.1: Put(%d) into %v: %v", v, list, got)
		}
		if len(list) < most {
			list = append(slices.Clone(list), v)
		}
	case what < 7:
		if got, ok := f.Get(); got != head || ok != some {
			t.Fatalf("P6.1: Get of %v: %d, %v", list, got, ok)
		}
		list = list[min(1, len(list)):]
	case what < 8:
		at := placeIn(list, v)
		if got := f.Drop(v); got != (at >= 0) {
			t.Fatalf("P6.1: Drop(%d) of %v: %v", v, list, got)
		}
		if at >= 0 {
			list = append(slices.Clone(list[:at]), list[at+1:]...)
		}
	default:
		if got := f.Turn(); got != some {
			t.Fatalf("P6.1: Turn of %v: %v", list, got)
		}
		if some {
			list = append(slices.Clone(list[1:]), head)
		}
	}
	if got := f.Place(v); got != placeIn(list, v) {
		t.Fatalf("P6.1: Place(%d) of %v: %d", v, list, got)
	}
	return list
}

func TestManyStepsAgainstAPlainList(t *testing.T) {
	for _, most := range []int{1, 2, 3, 5, 16, 256} {
		d := dice(most)
		f := New(most)
		var list []int
		for range 4000 {
			list = step(t, &d, f, most, list)
			holds(t, f, "many steps", list...)
			if t.Failed() {
				return
			}
		}
		empties(t, f, "many steps", list...)
	}
}
