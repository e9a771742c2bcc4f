package heap

import (
	"math"
	"slices"
	"testing"

	"beadle/api"
)

// ways are the two orders: the least first, and the greatest first.
var ways = []bool{false, true}

// plain is what a heap should be, told without any order in it: a list that is looked through.
type plain struct {
	most  int
	great bool
	list  []Item
}

func (p *plain) find(id int) int {
	return slices.IndexFunc(p.list, func(x Item) bool { return x.ID == id })
}

func (p *plain) put(id int, key int64) api.Errno {
	switch {
	case p.find(id) >= 0:
		return api.EBUSY
	case len(p.list) == p.most:
		return api.EFULL
	}
	p.list = append(p.list, Item{id, key})
	return api.OK
}

func (p *plain) set(id int, key int64) api.Errno {
	i := p.find(id)
	if i < 0 {
		return api.EID
	}
	p.list[i].Key = key
	return api.OK
}

func (p *plain) drop(id int) bool {
	i := p.find(id)
	if i < 0 {
		return false
	}
	p.list = slices.Delete(p.list, i, i+1)
	return true
}

func (p *plain) key(id int) (int64, bool) {
	if i := p.find(id); i >= 0 {
		return p.list[i].Key, true
	}
	return 0, false
}

func (p *plain) top() (Item, bool) {
	var first Item
	for i, x := range p.list {
		switch {
		case i == 0, x.Key < first.Key && !p.great, x.Key > first.Key && p.great, x.Key == first.Key && x.ID < first.ID:
			first = x
		}
	}
	return first, len(p.list) > 0
}

func (p *plain) pop() (Item, bool) {
	first, ok := p.top()
	p.drop(first.ID)
	return first, ok
}

func (p *plain) all() []Item {
	var l []Item
	rest := plain{p.most, p.great, slices.Clone(p.list)}
	for x, ok := rest.pop(); ok; x, ok = rest.pop() {
		l = append(l, x)
	}
	return l
}

// filled is a heap with these in it, put in in their order.
func filled(t *testing.T, most int, great bool, items ...Item) *Heap {
	t.Helper()
	h := New(most, great)
	for _, x := range items {
		if e := h.Put(x.ID, x.Key); e != api.OK {
			t.Fatalf("P4.1: Put(%d, %d) of %v: %d", x.ID, x.Key, items, e)
		}
	}
	return h
}

// holds asks h, by every call that changes nothing, whether it is just what is wanted, in that order.
func holds(t *testing.T, h *Heap, what string, want ...Item) {
	t.Helper()
	if got := h.All(); !slices.Equal(got, want) {
		t.Errorf("P4.1: %s: All: %v; want %v", what, got, want)
	}
	if got := h.Len(); got != len(want) {
		t.Errorf("P4.1: %s: Len: %d; want %d", what, got, len(want))
	}
	first := Item{}
	if len(want) > 0 {
		first = want[0]
	}
	if got, ok := h.Top(); got != first || ok != (len(want) > 0) {
		t.Errorf("P4.1: %s: Top: %v, %v; want %v", what, got, ok, first)
	}
	for _, x := range want {
		if got, ok := h.Key(x.ID); got != x.Key || !ok {
			t.Errorf("P4.1: %s: Key(%d): %d, %v; want %d", what, x.ID, got, ok, x.Key)
		}
	}
}

// pops takes all out of h, and asks whether they come in the order that is wanted.
func pops(t *testing.T, h *Heap, what string, want ...Item) {
	t.Helper()
	for i, x := range want {
		if got, ok := h.Pop(); got != x || !ok {
			t.Errorf("P4.1: %s: Pop number %d: %v, %v; want %v", what, i, got, ok, x)
		}
		if _, ok := h.Key(x.ID); ok || h.Len() != len(want)-i-1 {
			t.Errorf("P4.1: %s: Pop number %d: %v is not gone", what, i, x)
		}
	}
	if got, ok := h.Pop(); got != (Item{}) || ok {
		t.Errorf("P4.1: %s: Pop of none: %v, %v", what, got, ok)
	}
}

func TestExample(t *testing.T) {
	h := New(8, false)
	if a, b := h.Put(1, 9), h.Put(2, 5); a != api.OK || b != api.OK {
		t.Errorf("P4.1: Put(1, 9), Put(2, 5): %d, %d", a, b)
	}
	if got, ok := h.Top(); got != (Item{2, 5}) || !ok {
		t.Errorf("P4.1: Put(1, 9), Put(2, 5): Top: %v, %v", got, ok)
	}
}

func TestNewHoldsItsRoom(t *testing.T) {
	for _, great := range ways {
		for _, c := range []struct{ most, room int }{
			{math.MinInt, 1}, {-1 << 32, 1}, {-1024, 1}, {-1, 1}, {0, 1}, {1, 1}, {2, 2}, {3, 3}, {1023, 1023}, {1024, 1024},
			{1025, 1024}, {2048, 1024}, {1 << 16, 1024}, {1 << 32, 1024}, {1<<32 + 1, 1024}, {math.MaxInt - 1, 1024}, {math.MaxInt, 1024},
		} {
			h := New(c.most, great)
			holds(t, h, "new")
			for i := range c.room {
				if e := h.Put(i, int64(-i)); e != api.OK {
					t.Fatalf("P4.1: New(%d, %v): Put number %d: %d", c.most, great, i, e)
				}
			}
			if e := h.Put(c.room, 0); e != api.EFULL || h.Len() != c.room {
				t.Errorf("P4.1: New(%d, %v): Put past its room: %d; %d are there, want %d", c.most, great, e, h.Len(), c.room)
			}
		}
	}
}

func TestOrderBothWays(t *testing.T) {
	in := []Item{{4, 7}, {-3, 7}, {9, -2}, {0, 0}, {2, 7}, {-8, -2}, {5, 12}}
	for _, c := range []struct {
		great bool
		want  []Item
	}{
		{false, []Item{{-8, -2}, {9, -2}, {0, 0}, {-3, 7}, {2, 7}, {4, 7}, {5, 12}}},
		{true, []Item{{5, 12}, {-3, 7}, {2, 7}, {4, 7}, {0, 0}, {-8, -2}, {9, -2}}},
	} {
		h := filled(t, 7, c.great, in...)
		holds(t, h, "both ways", c.want...)
		pops(t, h, "both ways", c.want...)
		holds(t, h, "both ways, popped")
	}
}

func TestOneKey(t *testing.T) {
	for _, great := range ways {
		for _, ids := range [][]int{{1, 2, 3, 4, 5}, {5, 4, 3, 2, 1}, {3, 5, 1, 4, 2}} {
			h := New(5, great)
			for _, id := range ids {
				h.Put(id, 6)
			}
			want := []Item{{1, 6}, {2, 6}, {3, 6}, {4, 6}, {5, 6}}
			holds(t, h, "one key", want...)
			pops(t, h, "one key", want...)
		}
	}
}

func TestLeastAndGreatestOfAll(t *testing.T) {
	least, greatest := int64(math.MinInt64), int64(math.MaxInt64)
	in := []Item{{0, 0}, {math.MinInt, greatest}, {math.MaxInt, greatest}, {math.MaxInt - 1, least}, {math.MinInt + 1, least}, {-1, -1}, {1, 1}, {-2, least + 1}, {2, greatest - 1}}
	rising := []Item{{math.MinInt + 1, least}, {math.MaxInt - 1, least}, {-2, least + 1}, {-1, -1}, {0, 0}, {1, 1}, {2, greatest - 1}, {math.MinInt, greatest}, {math.MaxInt, greatest}}
	falling := []Item{{math.MinInt, greatest}, {math.MaxInt, greatest}, {2, greatest - 1}, {1, 1}, {0, 0}, {-1, -1}, {-2, least + 1}, {math.MinInt + 1, least}, {math.MaxInt - 1, least}}
	holds(t, filled(t, 9, false, in...), "edges, the least first", rising...)
	pops(t, filled(t, 9, false, in...), "edges, the least first", rising...)
	holds(t, filled(t, 9, true, in...), "edges, the greatest first", falling...)
	pops(t, filled(t, 9, true, in...), "edges, the greatest first", falling...)

	h := filled(t, 9, true, in...)
	if a, b := h.Set(math.MinInt, least), h.Set(math.MaxInt-1, greatest); a != api.OK || b != api.OK {
		t.Errorf("P4.1: Set to the least and the greatest: %d, %d", a, b)
	}
	if !h.Drop(math.MaxInt) || h.Drop(math.MaxInt) || !h.Drop(math.MinInt+1) || h.Drop(math.MinInt+1) {
		t.Errorf("P4.1: Drop of the greatest and the least id")
	}
	want := []Item{{math.MaxInt - 1, greatest}, {2, greatest - 1}, {1, 1}, {0, 0}, {-1, -1}, {-2, least + 1}, {math.MinInt, least}}
	holds(t, h, "edges, set and dropped", want...)
	pops(t, h, "edges, set and dropped", want...)
}

func TestPutThatIsRefused(t *testing.T) {
	for _, great := range ways {
		want := []Item{{1, 4}, {2, 4}, {3, 4}}
		h := filled(t, 4, great, want...)
		for _, key := range []int64{4, 0, 9, math.MinInt64, math.MaxInt64} {
			if e := h.Put(2, key); e != api.EBUSY {
				t.Errorf("P4.1: Put(2, %d) of one that is there: %d", key, e)
			}
			holds(t, h, "Put of one that is there", want...)
		}
		want = append(want, Item{4, 4})
		h.Put(4, 4)
		for _, key := range []int64{4, 0, 9, math.MinInt64, math.MaxInt64} {
			for id := 1; id <= 4; id++ {
				if e := h.Put(id, key); e != api.EBUSY {
					t.Errorf("P4.1: Put(%d, %d) of one that is there, full: %d", id, key, e)
				}
			}
			for _, id := range []int{0, 5, -1, math.MinInt, math.MaxInt} {
				if e := h.Put(id, key); e != api.EFULL {
					t.Errorf("P4.1: Put(%d, %d) of a new one, full: %d", id, key, e)
				}
				if k, ok := h.Key(id); k != 0 || ok {
					t.Errorf("R3: Put(%d, %d), refused: Key: %d, %v", id, key, k, ok)
				}
			}
			holds(t, h, "Put of a full heap", want...)
		}
		pops(t, h, "Put of a full heap", want...)
	}
	h := New(1, false)
	if a, b, c := h.Put(0, 0), h.Put(0, 1), h.Put(1, 0); a != api.OK || b != api.EBUSY || c != api.EFULL {
		t.Errorf("P4.1: Put into room for one: %d, %d, %d", a, b, c)
	}
}

func TestRoomIsGivenBack(t *testing.T) {
	h := filled(t, 2, false, Item{1, 1}, Item{2, 2})
	h.Pop()
	if e := h.Put(1, 7); e != api.OK {
		t.Errorf("P4.1: Put of one that was popped: %d", e)
	}
	holds(t, h, "put again", Item{2, 2}, Item{1, 7})
	if e := h.Put(3, 0); e != api.EFULL {
		t.Errorf("P4.1: Put, full again: %d", e)
	}
	h.Drop(1)
	if a, b := h.Set(1, 0), h.Put(1, 0); a != api.EID || b != api.OK {
		t.Errorf("P4.1: Set and Put of one that was dropped: %d, %d", a, b)
	}
	holds(t, h, "put again", Item{1, 0}, Item{2, 2})
	pops(t, h, "put again", Item{1, 0}, Item{2, 2})
}

func TestSetByHand(t *testing.T) {
	for _, c := range []struct {
		id   int
		key  int64
		want []Item
	}{
		{3, 5, []Item{{3, 5}, {1, 10}, {2, 20}, {4, 40}}}, // to the first
		{4, 20, []Item{{1, 10}, {2, 20}, {4, 20}, {3, 30}}},
		{4, 10, []Item{{1, 10}, {4, 10}, {2, 20}, {3, 30}}}, // beside the first, behind it by its id
		{1, 20, []Item{{1, 20}, {2, 20}, {3, 30}, {4, 40}}},
		{1, 35, []Item{{2, 20}, {3, 30}, {1, 35}, {4, 40}}},
		{1, 99, []Item{{2, 20}, {3, 30}, {4, 40}, {1, 99}}}, // to the last
		{2, 20, []Item{{1, 10}, {2, 20}, {3, 30}, {4, 40}}}, // to the same
		{4, 41, []Item{{1, 10}, {2, 20}, {3, 30}, {4, 41}}},
	} {
		rising := []Item{{1, 10}, {2, 20}, {3, 30}, {4, 40}}
		h := filled(t, 4, false, rising...) // full: Set asks for no room
		if e := h.Set(c.id, c.key); e != api.OK {
			t.Errorf("P4.1: Set(%d, %d): %d", c.id, c.key, e)
		}
		holds(t, h, "Set", c.want...)
		pops(t, h, "Set", c.want...)
	}
	h := filled(t, 3, true, Item{1, 10}, Item{2, 20}, Item{3, 30})
	h.Set(1, 30)
	h.Set(3, 10)
	holds(t, h, "Set, the greatest first", Item{1, 30}, Item{2, 20}, Item{3, 10})
	pops(t, h, "Set, the greatest first", Item{1, 30}, Item{2, 20}, Item{3, 10})
}

func TestSetOfNone(t *testing.T) {
	for _, great := range ways {
		h := New(3, great)
		if e := h.Set(1, 1); e != api.EID {
			t.Errorf("P4.1: Set of an empty heap: %d", e)
		}
		holds(t, h, "Set of an empty heap")
		h.Put(0, 5)
		for _, id := range []int{1, -1, 5, math.MinInt, math.MaxInt} {
			if e := h.Set(id, 5); e != api.EID {
				t.Errorf("P4.1: Set(%d) of one that is not there: %d", id, e)
			}
			if k, ok := h.Key(id); k != 0 || ok {
				t.Errorf("P4.1: Key(%d) of one that is not there: %d, %v", id, k, ok)
			}
		}
		holds(t, h, "Set of one that is not there", Item{0, 5})
	}
}

func TestDropByHand(t *testing.T) {
	rising := []Item{{1, 10}, {2, 20}, {3, 30}, {4, 40}, {5, 50}}
	for i, x := range rising {
		h := filled(t, 5, false, rising...)
		want := slices.Delete(slices.Clone(rising), i, i+1)
		if !h.Drop(x.ID) {
			t.Errorf("P4.1: Drop(%d): false", x.ID)
		}
		if k, ok := h.Key(x.ID); k != 0 || ok {
			t.Errorf("P4.1: Drop(%d): Key: %d, %v", x.ID, k, ok)
		}
		holds(t, h, "Drop", want...)
		if h.Drop(x.ID) {
			t.Errorf("P4.1: Drop(%d) of one that is gone: true", x.ID)
		}
		holds(t, h, "Drop of one that is gone", want...)
		pops(t, h, "Drop", want...)
	}
	h := filled(t, 5, false, rising...)
	for _, id := range []int{0, 6, 10, -1, math.MinInt, math.MaxInt} {
		if h.Drop(id) {
			t.Errorf("P4.1: Drop(%d) of none: true", id)
		}
	}
	holds(t, h, "Drop of none", rising...)
	one := filled(t, 1, true, Item{7, 7})
	if !one.Drop(7) || one.Drop(7) {
		t.Errorf("P4.1: Drop of the only one")
	}
	holds(t, one, "Drop of the only one")
}

func TestOfNone(t *testing.T) {
	for _, great := range ways {
		fresh, used := New(3, great), filled(t, 3, great, Item{1, 5}, Item{2, 6})
		used.Pop()
		used.Drop(1)
		used.Drop(2)
		for _, h := range []*Heap{fresh, used} {
			if x, ok := h.Top(); x != (Item{}) || ok {
				t.Errorf("P4.1: Top of none: %v, %v", x, ok)
			}
			if x, ok := h.Pop(); x != (Item{}) || ok {
				t.Errorf("P4.1: Pop of none: %v, %v", x, ok)
			}
			for _, id := range []int{0, 1, 2, -1, math.MinInt, math.MaxInt} {
				if k, ok := h.Key(id); k != 0 || ok {
					t.Errorf("P4.1: Key(%d) of none: %d, %v", id, k, ok)
				}
				if h.Drop(id) {
					t.Errorf("P4.1: Drop(%d) of none: true", id)
				}
			}
			if n, all := h.Len(), h.All(); n != 0 || len(all) != 0 {
				t.Errorf("P4.1: Len and All of none: %d, %v", n, all)
			}
		}
	}
}

func TestKeyOfNoughtIsThere(t *testing.T) {
	h := filled(t, 2, false, Item{0, 0})
	if k, ok := h.Key(0); k != 0 || !ok {
		t.Errorf("P4.1: Key(0) of key 0: %d, %v", k, ok)
	}
	if x, ok := h.Top(); x != (Item{}) || !ok {
		t.Errorf("P4.1: Top of id 0 with key 0: %v, %v", x, ok)
	}
	if x, ok := h.Pop(); x != (Item{}) || !ok {
		t.Errorf("P4.1: Pop of id 0 with key 0: %v, %v", x, ok)
	}
}

func TestAllIsNewMemory(t *testing.T) {
	want := []Item{{3, 1}, {2, 2}, {1, 3}}
	h := filled(t, 8, false, Item{1, 3}, Item{2, 2}, Item{3, 1})
	first, second := h.All(), h.All()
	room := first[:cap(first)]
	for i := range room {
		room[i] = Item{99, -99}
	}
	if !slices.Equal(second, want) {
		t.Errorf("R4: two answers of All share memory: %v", second)
	}
	holds(t, h, "All was written over", want...)
	kept := h.All()
	h.Set(3, 9)
	h.Put(4, 0)
	h.Drop(2)
	if !slices.Equal(kept, want) {
		t.Errorf("R4: an answer of All has changed: %v", kept)
	}
	holds(t, h, "behind All", Item{4, 0}, Item{1, 3}, Item{3, 9})
	pops(t, h, "behind All", Item{4, 0}, Item{1, 3}, Item{3, 9})
}

func TestHeapsAreApart(t *testing.T) {
	a, b := New(2, false), New(2, true)
	a.Put(1, 1)
	a.Put(2, 2)
	if e := b.Put(1, 5); e != api.OK {
		t.Errorf("R5: Put into another heap: %d", e)
	}
	a.Drop(1)
	holds(t, a, "one heap", Item{2, 2})
	holds(t, b, "another heap", Item{1, 5})
}

// orders calls do with each order of the items.
func orders(items []Item, do func([]Item)) {
	var place func(n int)
	place = func(n int) {
		if n == len(items) {
			do(items)
			return
		}
		for i := n; i < len(items); i++ {
			items[n], items[i] = items[i], items[n]
			place(n + 1)
			items[n], items[i] = items[i], items[n]
		}
	}
	place(0)
}

// In a heap of seven one that takes the place of a dropped one may have to go towards the first.
func TestDropFromEachOrder(t *testing.T) {
	for _, great := range ways {
		orders([]Item{{1, 1}, {2, 2}, {3, 3}, {4, 3}, {5, 5}, {6, 6}, {7, 7}}, func(items []Item) {
			for id := 1; id <= 7 && !t.Failed(); id++ {
				h := filled(t, 7, great, items...)
				p := plain{7, great, slices.Clone(items)}
				if h.Drop(id) != p.drop(id) {
					t.Errorf("P4.1: Drop(%d) of %v", id, items)
				}
				pops(t, h, "Drop from each order", p.all()...)
			}
		})
	}
}

func TestSetFromEachOrder(t *testing.T) {
	for _, great := range ways {
		orders([]Item{{1, 2}, {2, 4}, {3, 4}, {4, 6}, {5, 8}, {6, 10}}, func(items []Item) {
			for id := 1; id <= 6; id++ {
				for key := int64(1); key <= 11 && !t.Failed(); key++ {
					h := filled(t, 6, great, items...)
					p := plain{6, great, slices.Clone(items)}
					if e := h.Set(id, key); e != p.set(id, key) {
						t.Errorf("P4.1: Set(%d, %d) of %v: %d", id, key, items, e)
					}
					pops(t, h, "Set from each order", p.all()...)
				}
			}
		})
	}
}

// dice tells numbers that look like any, the same ones each time.
type dice uint64

func (d *dice) below(n int) int {
	*d = *d*6364136223846793005 + 1442695040888963407
	return int(uint64(*d>>33) % uint64(n))
}

// step does one thing, by lot, to a heap and to a plain one, and holds their answers against each other.
func step(t *testing.T, d *dice, h *Heap, p *plain, ids, keys int) {
	t.Helper()
	id, key := d.below(ids)-ids/2, int64(d.below(keys)-keys/2)
	switch what := d.below(10); {
	case what < 4:
		if got, want := h.Put(id, key), p.put(id, key); got != want {
			t.Fatalf("P4.1: Put(%d, %d): %d; want %d", id, key, got, want)
		}
	case what < 7:
		if got, want := h.Set(id, key), p.set(id, key); got != want {
			t.Fatalf("P4.1: Set(%d, %d): %d; want %d", id, key, got, want)
		}
	case what < 9:
		if got, want := h.Drop(id), p.drop(id); got != want {
			t.Fatalf("P4.1: Drop(%d): %v; want %v", id, got, want)
		}
	default:
		got, ok := h.Pop()
		if want, there := p.pop(); got != want || ok != there {
			t.Fatalf("P4.1: Pop: %v, %v; want %v, %v", got, ok, want, there)
		}
	}
	got, ok := h.Top()
	if want, there := p.top(); got != want || ok != there {
		t.Fatalf("P4.1: Top: %v, %v; want %v, %v", got, ok, want, there)
	}
	k, ok := h.Key(id)
	if want, there := p.key(id); k != want || ok != there {
		t.Fatalf("P4.1: Key(%d): %d, %v; want %d, %v", id, k, ok, want, there)
	}
}

func TestManyStepsAgainstAPlainList(t *testing.T) {
	d := dice(4)
	for _, great := range ways {
		for _, c := range []struct{ most, ids, keys, steps int }{
			{1, 3, 3, 400}, {2, 4, 2, 400}, {5, 9, 3, 2000}, {16, 24, 5, 4000}, {64, 80, 1000, 6000}, {300, 260, 40, 6000},
		} {
			h, p := New(c.most, great), &plain{most: c.most, great: great}
			for i := range c.steps {
				step(t, &d, h, p, c.ids, c.keys)
				if i%40 == 0 {
					holds(t, h, "many steps", p.all()...)
				}
			}
			pops(t, h, "many steps", p.all()...)
		}
	}
}

func TestFullOfThemAll(t *testing.T) {
	for _, great := range ways {
		h, p := New(1024, great), &plain{most: 1024, great: great}
		for i := range 1024 {
			id, key := i*389%1024, int64(i*37%101)
			if got, want := h.Put(id, key), p.put(id, key); got != want {
				t.Fatalf("P4.1: Put(%d, %d): %d; want %d", id, key, got, want)
			}
		}
		if a, b := h.Put(1024, 0), h.Put(1023, 0); a != api.EFULL || b != api.EBUSY {
			t.Errorf("P4.1: Put into a full heap: %d, %d", a, b)
		}
		for id := 0; id < 1024; id += 3 {
			if h.Set(id, int64(id%7)) != p.set(id, int64(id%7)) || h.Drop(id+1) != p.drop(id+1) {
				t.Fatalf("P4.1: Set(%d) and Drop(%d) of a full heap", id, id+1)
			}
		}
		want := p.all()
		holds(t, h, "full", want...)
		pops(t, h, "full", want...)
	}
}
