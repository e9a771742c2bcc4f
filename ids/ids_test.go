package ids

import (
	"math"
	"slices"
	"testing"

	"beadle/api"
)

const lastGen = 1<<24 - 1

// name makes a name that may be.
func name(t *testing.T, place, gen int) Name {
	t.Helper()
	n, ok := Make(place, gen)
	if !ok {
		t.Fatalf("P5.1: Make(%d, %d) is refused", place, gen)
	}
	return n
}

// take takes, and holds what is answered against the place and the gen that it should be.
func take(t *testing.T, x *Table, place, gen int) Name {
	t.Helper()
	n, e := x.Take()
	if want := name(t, place, gen); n != want || e != api.OK {
		t.Fatalf("P5.1: Take: %d.%d, %d, want %d.%d", n.Place(), n.Gen(), e, place, gen)
	}
	return n
}

// give gives back one that is taken.
func give(t *testing.T, x *Table, n Name) {
	t.Helper()
	if e := x.Give(n); e != api.OK {
		t.Fatalf("P5.1: Give of %d.%d: %d", n.Place(), n.Gen(), e)
	}
}

// full makes a table of which every place is taken for the first time.
func full(t *testing.T, most int) (*Table, []Name) {
	t.Helper()
	x := New(most)
	var all []Name
	for place := range most {
		all = append(all, take(t, x, place, 0))
	}
	return x, all
}

// refused holds that Is and Give both answer an error, and that Give changes nothing.
func refused(t *testing.T, x *Table, n Name, want api.Errno) {
	t.Helper()
	before := slices.Clone(x.spots)
	if e := x.Is(n); e != want {
		t.Errorf("P5.1: Is of %d.%d: %d, want %d", n.Place(), n.Gen(), e, want)
	}
	if e := x.Give(n); e != want {
		t.Errorf("P5.1: Give of %d.%d: %d, want %d", n.Place(), n.Gen(), e, want)
	}
	if !slices.Equal(x.spots, before) {
		t.Errorf("R3: Give of %d.%d is refused and changes the table", n.Place(), n.Gen())
	}
}

// age takes one place and gives it back till its gen is the one that is asked for; it must be the least that is free.
func age(t *testing.T, x *Table, place, gen int) {
	t.Helper()
	for i := range gen {
		n, e := x.Take()
		if e != api.OK || n.Place() != place || n.Gen() != i || x.Give(n) != api.OK {
			t.Fatalf("P5.1: gen %d of place %d: %d.%d, %d", i, place, n.Place(), n.Gen(), e)
		}
	}
}

func TestMake(t *testing.T) {
	for _, c := range []struct {
		place, gen int
		want       Name
		ok         bool
	}{
		{0, 0, 0, true},
		{1, 0, 1, true},
		{0, 1, 256, true},
		{3, 2, 515, true},
		{255, 0, 255, true},
		{0, lastGen, 0xffffff00, true},
		{255, lastGen, math.MaxUint32, true},
		{0x12, 0x345678, 0x34567812, true},
		{-1, 0, 0, false},
		{256, 0, 0, false},
		{0, -1, 0, false},
		{0, lastGen + 1, 0, false},
		{-1, lastGen, 0, false},
		{256, lastGen, 0, false},
		{255, -1, 0, false},
		{255, lastGen + 1, 0, false},
		{-1, -1, 0, false},
		{256, 1 << 24, 0, false},
		{math.MinInt, 0, 0, false},
		{math.MaxInt, 0, 0, false},
		{0, math.MinInt, 0, false},
		{0, math.MaxInt, 0, false},
		{math.MaxInt, math.MaxInt, 0, false},
		{math.MinInt, math.MinInt, 0, false},
		{1 << 32, 0, 0, false},
		{0, 1 << 32, 0, false},
	} {
		if n, ok := Make(c.place, c.gen); n != c.want || ok != c.ok {
			t.Errorf("P5.1: Make(%d, %d): %d, %v, want %d, %v", c.place, c.gen, n, ok, c.want, c.ok)
		}
	}
}

func TestPlaceAndGen(t *testing.T) {
	for _, c := range []struct {
		n          Name
		place, gen int
	}{
		{0, 0, 0},
		{math.MaxUint32, 255, lastGen},
		{255, 255, 0},
		{256, 0, 1},
		{0xffffff00, 0, lastGen},
		{0x80000000, 0, 1 << 23},
		{0x34567812, 0x12, 0x345678},
	} {
		if c.n.Place() != c.place || c.n.Gen() != c.gen {
			t.Errorf("P5.1: %#x: %d.%d, want %d.%d", uint32(c.n), c.n.Place(), c.n.Gen(), c.place, c.gen)
		}
	}
	for bit := range 32 {
		n := Name(1) << bit
		if back, ok := Make(n.Place(), n.Gen()); !ok || back != n {
			t.Errorf("P5.1: %#x is %#x behind Place, Gen and Make", uint32(n), uint32(back))
		}
	}
}

func TestNew(t *testing.T) {
	for _, c := range []struct{ most, want int }{
		{math.MinInt, 1}, {-1, 1}, {0, 1}, {1, 1}, {2, 2}, {3, 3}, {255, 255}, {256, 256}, {257, 256}, {1 << 16, 256}, {math.MaxInt, 256},
	} {
		x := New(c.most)
		if all := x.List(); len(all) != 0 {
			t.Errorf("P5.1: New(%d) has taken ones: %v", c.most, all)
		}
		for place := range c.want {
			take(t, x, place, 0)
		}
		for range 2 {
			if n, e := x.Take(); n != 0 || e != api.EFULL {
				t.Errorf("P5.1: Take of a full New(%d): %d, %d", c.most, n, e)
			}
		}
		if all := x.List(); len(all) != c.want {
			t.Errorf("P5.1: New(%d) has %d places, want %d", c.most, len(all), c.want)
		}
	}
}

func TestTakeLeastFree(t *testing.T) {
	x, all := full(t, 6)
	for _, place := range []int{4, 1, 5, 2} {
		give(t, x, all[place])
	}
	take(t, x, 1, 1)
	take(t, x, 2, 1)
	give(t, x, all[0])
	take(t, x, 0, 1)
	take(t, x, 4, 1)
	take(t, x, 5, 1)
	if n, e := x.Take(); n != 0 || e != api.EFULL {
		t.Errorf("P5.1: Take of a full table: %d, %d", n, e)
	}
	if x.Is(all[3]) != api.OK {
		t.Errorf("P5.1: Take of a full table, and Gives of others, end place 3")
	}
	give(t, x, all[3])
	take(t, x, 3, 1)
}

func TestTakeGiveTake(t *testing.T) {
	x := New(4)
	give(t, x, take(t, x, 0, 0))
	take(t, x, 0, 1)
}

func TestIsAndGiveOfTaken(t *testing.T) {
	x := New(3)
	age(t, x, 0, 5)
	n := take(t, x, 0, 5)
	take(t, x, 1, 0)
	if e := x.Is(n); e != api.OK {
		t.Errorf("P5.1: Is of one that is taken: %d", e)
	}
	for gen := range 5 {
		refused(t, x, name(t, 0, gen), api.ESTALE)
	}
	for _, gen := range []int{6, 7, 100, lastGen} {
		refused(t, x, name(t, 0, gen), api.EID)
	}
	for _, gen := range []int{1, 5, lastGen} {
		refused(t, x, name(t, 1, gen), api.EID)
	}
	give(t, x, n)
	if x.Is(n) != api.ESTALE || x.Is(name(t, 1, 0)) != api.OK {
		t.Errorf("P5.1: behind a Give: %d; of another place: %d", x.Is(n), x.Is(name(t, 1, 0)))
	}
}

func TestIsAndGiveOfFree(t *testing.T) {
	x := New(3)
	age(t, x, 0, 5)
	for gen := range 5 {
		refused(t, x, name(t, 0, gen), api.ESTALE)
	}
	for _, gen := range []int{5, 6, 7, lastGen} {
		refused(t, x, name(t, 0, gen), api.EID)
	}
	for _, gen := range []int{0, 1, lastGen} {
		refused(t, x, name(t, 2, gen), api.EID)
	}
	take(t, x, 0, 5)
}

func TestGiveTwice(t *testing.T) {
	x, all := full(t, 2)
	for _, n := range all {
		give(t, x, n)
		refused(t, x, n, api.ESTALE)
		refused(t, x, n, api.ESTALE)
	}
	take(t, x, 0, 1)
	take(t, x, 1, 1)
	for _, n := range all {
		refused(t, x, n, api.ESTALE)
	}
}

func TestPlaceThatIsNone(t *testing.T) {
	for _, most := range []int{1, 2, 3, 255} {
		x, _ := full(t, most)
		for _, place := range []int{most, 255} {
			for _, gen := range []int{0, 1, lastGen} {
				refused(t, x, name(t, place, gen), api.EID)
			}
		}
	}
	x, all := full(t, 256)
	if x.Is(all[255]) != api.OK {
		t.Errorf("P5.1: Is of place 255 of 256: %d", x.Is(all[255]))
	}
	refused(t, x, math.MaxUint32, api.EID)
}

func TestGenBehindTheLast(t *testing.T) {
	x := New(3)
	age(t, x, 0, lastGen)
	first, next, last := name(t, 0, 0), name(t, 0, 1), name(t, 0, lastGen)
	refused(t, x, last, api.EID)
	refused(t, x, name(t, 0, lastGen-1), api.ESTALE)
	refused(t, x, first, api.ESTALE)
	take(t, x, 0, lastGen)
	refused(t, x, name(t, 0, lastGen-1), api.ESTALE)
	refused(t, x, first, api.ESTALE)
	take(t, x, 1, 0)
	give(t, x, last)
	for _, n := range []Name{first, next, last} {
		refused(t, x, n, api.EID)
	}
	take(t, x, 0, 0)
	if e := x.Is(first); e != api.OK {
		t.Errorf("P5.1: Is of gen 0 behind the last gen: %d", e)
	}
	refused(t, x, next, api.EID)
	refused(t, x, last, api.EID)
	give(t, x, first)
	refused(t, x, first, api.ESTALE)
	refused(t, x, last, api.EID)
	take(t, x, 0, 1)
	if !slices.Equal(x.List(), []Name{next, name(t, 1, 0)}) {
		t.Errorf("P5.1: List behind the last gen: %v", x.List())
	}
}

func TestAt(t *testing.T) {
	x, all := full(t, 4)
	give(t, x, all[0])
	give(t, x, all[2])
	again := take(t, x, 0, 1)
	for _, c := range []struct {
		place int
		want  Name
		ok    bool
	}{
		{0, again, true}, {1, all[1], true}, {2, 0, false}, {3, all[3], true},
		{-1, 0, false}, {4, 0, false}, {255, 0, false}, {256, 0, false}, {257, 0, false},
		{math.MinInt, 0, false}, {math.MaxInt, 0, false}, {-256, 0, false}, {1 << 32, 0, false},
	} {
		if n, ok := x.At(c.place); n != c.want || ok != c.ok {
			t.Errorf("P5.1: At(%d): %d, %v, want %d, %v", c.place, n, ok, c.want, c.ok)
		}
	}
	if n, ok := New(1).At(0); n != 0 || ok {
		t.Errorf("P5.1: At of a new table: %d, %v", n, ok)
	}
	great, names := full(t, 256)
	for _, n := range names {
		if got, ok := great.At(n.Place()); got != n || !ok {
			t.Errorf("P5.1: At(%d) of 256: %d, %v", n.Place(), got, ok)
		}
	}
}

func TestList(t *testing.T) {
	x, all := full(t, 4)
	if !slices.Equal(x.List(), all) {
		t.Errorf("P5.1: List of a full table: %v, want %v", x.List(), all)
	}
	for _, place := range []int{3, 0, 1} {
		give(t, x, all[place])
	}
	zero, one := take(t, x, 0, 1), take(t, x, 1, 1)
	// Place 2 has the least name of the three: the order is that of the places, not of the names.
	if want := []Name{zero, one, all[2]}; !slices.Equal(x.List(), want) {
		t.Errorf("P5.1: List: %v, want %v", x.List(), want)
	}
	for _, n := range x.List() {
		give(t, x, n)
	}
	if len(x.List()) != 0 {
		t.Errorf("P5.1: List of none: %v", x.List())
	}
}

func TestListIsNewMemory(t *testing.T) {
	x, all := full(t, 5)
	give(t, x, all[4])
	first, second := x.List(), x.List()
	for _, list := range [][]Name{first, second} {
		whole := list[:cap(list)]
		for i := range whole {
			whole[i] = math.MaxUint32
		}
		if !slices.Equal(x.List(), all[:4]) {
			t.Errorf("R4: List behind writing over what it answered: %v", x.List())
		}
	}
	kept := x.List()
	give(t, x, all[0])
	take(t, x, 0, 1)
	take(t, x, 4, 1)
	if !slices.Equal(kept, all[:4]) {
		t.Errorf("R4: Give and Take change what List answered: %v", kept)
	}
	second = x.List()
	if &second[0] == &first[0] || &second[0] == &kept[0] {
		t.Errorf("R4: two answers of List share memory")
	}
}

func TestTablesAreApart(t *testing.T) {
	x, y := New(2), New(2)
	give(t, x, take(t, x, 0, 0))
	take(t, y, 0, 0)
	take(t, y, 1, 0)
	take(t, x, 0, 1)
	if len(x.List()) != 1 || len(y.List()) != 2 {
		t.Errorf("R5: two tables know of each other: %v, %v", x.List(), y.List())
	}
}

// plain is what a table should be, told without its means: how often each place was given back, and who is out.
type plain struct {
	given []int
	out   []Name
}

func (p *plain) take(t *testing.T) (Name, api.Errno) {
	for place, often := range p.given {
		if _, ok := p.at(place); !ok {
			n := name(t, place, often)
			p.out = append(p.out, n)
			return n, api.OK
		}
	}
	return 0, api.EFULL
}

func (p *plain) at(place int) (Name, bool) {
	for _, n := range p.out {
		if n.Place() == place {
			return n, true
		}
	}
	return 0, false
}

func (p *plain) is(n Name) api.Errno {
	switch {
	case slices.Contains(p.out, n):
		return api.OK
	case n.Place() < len(p.given) && n.Gen() < p.given[n.Place()]:
		return api.ESTALE
	}
	return api.EID
}

func (p *plain) give(n Name) api.Errno {
	e := p.is(n)
	if e == api.OK {
		p.given[n.Place()]++
		p.out = slices.DeleteFunc(p.out, func(x Name) bool { return x == n })
	}
	return e
}

func (p *plain) list() []Name {
	all := slices.Clone(p.out)
	slices.SortFunc(all, func(a, b Name) int { return a.Place() - b.Place() })
	return all
}

// dice are numbers by lot, the same ones in each run.
type dice uint64

func (d *dice) below(n int) int {
	*d = *d*6364136223846793005 + 1442695040888963407
	return int(uint64(*d) >> 33 % uint64(n))
}

func TestAgainstPlain(t *testing.T) {
	for _, most := range []int{1, 2, 3, 7, 64, 256} {
		d := dice(most)
		x, p := New(most), &plain{given: make([]int, most)}
		for step := range 3000 {
			n := name(t, d.below(min(most+2, 256)), d.below(4+step/(20*most)))
			if d.below(2) == 0 && len(p.out) > 0 {
				n = p.out[d.below(len(p.out))]
			}
			if d.below(3) == 0 {
				got, e := x.Give(n), p.give(n)
				if got != e {
					t.Fatalf("P5.1: step %d of %d: Give of %d.%d: %d, want %d", step, most, n.Place(), n.Gen(), got, e)
				}
			} else if d.below(2) == 0 {
				got, e := x.Take()
				want, should := p.take(t)
				if got != want || e != should {
					t.Fatalf("P5.1: step %d of %d: Take: %d, %d, want %d, %d", step, most, got, e, want, should)
				}
			}
			same(t, x, p, n)
		}
	}
}

// same holds what a table tells against what it should tell.
func same(t *testing.T, x *Table, p *plain, n Name) {
	t.Helper()
	if got, want := x.Is(n), p.is(n); got != want {
		t.Fatalf("P5.1: Is of %d.%d: %d, want %d", n.Place(), n.Gen(), got, want)
	}
	got, there := x.At(n.Place())
	want, should := p.at(n.Place())
	if got != want || there != should {
		t.Fatalf("P5.1: At(%d): %d, %v, want %d, %v", n.Place(), got, there, want, should)
	}
	if !slices.Equal(x.List(), p.list()) {
		t.Fatalf("P5.1: List: %v, want %v", x.List(), p.list())
	}
}
