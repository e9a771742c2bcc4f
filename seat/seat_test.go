package seat

import (
	"math"
	"slices"
	"testing"

	"beadle/api"
	"beadle/mask"
)

// badIDs are some that may not be, neither in seats nor in those that run.
var badIDs = []int{math.MinInt, math.MinInt + 1, -1 << 32, -1<<32 + 1, -1 << 31, -1024, -1023, -3, -2, 1024, 1025, 2047, 2048, 1 << 16, 1<<31 - 1, 1 << 31, 1<<32 - 1, 1 << 32, 1<<32 + 1, math.MaxInt}

// same is n times id, up is n ids from id on.
func same(n, id int) []int { return slices.Repeat([]int{id}, n) }

func up(n, id int) []int {
	var l []int
	for i := range n {
		l = append(l, id+i)
	}
	return l
}

// put is a copy of l with id at i.
func put(l []int, i, id int) []int {
	c := slices.Clone(l)
	c[i] = id
	return c
}

// plainTwice tells whether an id stands in l twice.
func plainTwice(l []int) bool {
	for i, id := range l {
		for _, other := range l[:i] {
			if id == other && id != -1 {
				return true
			}
		}
	}
	return false
}

// plainGood is Good as the chapter says it.
func plainGood(was, run []int) bool {
	for _, id := range was {
		if id < -1 || id > 1023 {
			return false
		}
	}
	for _, id := range run {
		if id < 0 || id > 1023 {
			return false
		}
	}
	return 1 <= len(was) && len(was) <= 64 && len(run) <= len(was) && !plainTwice(was) && !plainTwice(run)
}

// plainAt is At as the chapter says it.
func plainAt(was []int, id int) int {
	for cpu, has := range was {
		if has == id {
			return cpu
		}
	}
	return -1
}

// plainGive is Give as the chapter says it: one by one each that has no seat
// goes through the CPUs from 0 on.
func plainGive(was, run []int) (now []int, moved int) {
	if !plainGood(was, run) {
		return nil, 0
	}
	now = same(len(was), -1)
	for cpu, id := range was {
		if id >= 0 && plainAt(run, id) >= 0 {
			now[cpu] = id
		}
	}
	for _, id := range run {
		if plainAt(was, id) < 0 {
			now[plainAt(now, -1)] = id
			moved++
		}
	}
	return now, moved
}

// plainSwap is Swap as the chapter says it.
func plainSwap(was []int, cpu, id int) ([]int, int) {
	if !plainGood(was, nil) || cpu < 0 || cpu > len(was)-1 || id < -1 || id > 1023 {
		return nil, -1
	}
	var now []int
	for i, has := range was {
		switch {
		case i == cpu:
			now = append(now, id)
		case has == id:
			now = append(now, -1)
		default:
			now = append(now, has)
		}
	}
	return now, was[cpu]
}

func good(t *testing.T, what string, was, run []int, want bool) {
	t.Helper()
	if got := Good(was, run); got != want {
		t.Errorf("P16.1: Good of %s, %v, run %v: %v, want %v", what, was, run, got, want)
	}
}

func gives(t *testing.T, what string, was, run, want []int, moves int) {
	t.Helper()
	if now, moved := Give(was, run); !slices.Equal(now, want) || moved != moves {
		t.Errorf("P16.1: Give of %s, %v, run %v: %v, %d, want %v, %d", what, was, run, now, moved, want, moves)
	}
}

func free(t *testing.T, what string, was []int, want mask.Mask) {
	t.Helper()
	if got := Free(was); got != want {
		t.Errorf("P16.1: Free of %s, %v: %s, want %s", what, was, got, want)
	}
}

func sits(t *testing.T, what string, was []int, id, want int) {
	t.Helper()
	if got := At(was, id); got != want {
		t.Errorf("P16.1: At of %s, %v, id %d: %d, want %d", what, was, id, got, want)
	}
}

func swaps(t *testing.T, what string, was []int, cpu, id int, want []int, out int) {
	t.Helper()
	if now, who := Swap(was, cpu, id); !slices.Equal(now, want) || who != out {
		t.Errorf("P16.1: Swap of %s, %v, id %d to %d: %v, %d, want %v, %d", what, was, id, cpu, now, who, want, out)
	}
}

// bad checks that no seats are given of what is not Good.
func bad(t *testing.T, what string, was, run []int) {
	t.Helper()
	good(t, what, was, run, false)
	gives(t, what, was, run, nil, 0)
}

// badSeats checks that neither Give nor Swap does anything with such seats.
func badSeats(t *testing.T, what string, was []int) {
	t.Helper()
	bad(t, what, was, nil)
	bad(t, what, was, []int{})
	bad(t, what, was, []int{500})
	for _, cpu := range []int{-1, 0, 1, len(was) - 1, len(was)} {
		for _, id := range []int{-2, -1, 0, 500, 1023, 1024} {
			swaps(t, what, was, cpu, id, nil, -1)
		}
	}
}

func TestExample(t *testing.T) {
	gives(t, "the example", []int{3, -1}, []int{5, 3}, []int{3, 5}, 1)
}

func TestGoodMany(t *testing.T) {
	badSeats(t, "nil", nil)
	badSeats(t, "none", []int{})
	for n := 1; n <= api.MaxCPUs; n++ {
		good(t, "so many, all free", same(n, -1), nil, true)
		good(t, "so many, all free, none that runs", same(n, -1), []int{}, true)
		good(t, "so many, all had", up(n, 100), nil, true)
		good(t, "so many, one fewer that run", up(n, 0), up(n-1, 0), true)
		good(t, "so many, just as many that run", up(n, 0), up(n, 0), true)
		good(t, "so many, just as many others that run", up(n, 0), up(n, 900), true)
		bad(t, "so many, one more that runs", up(n, 0), up(n+1, 0))
		bad(t, "so many, all free, one more that runs", same(n, -1), up(n+1, 0))
		bad(t, "so many, twice as many that run", up(n, 0), up(2*n, 0))
	}
	for _, n := range []int{65, 66, 128, 255, 256, 257, 320, 1<<16 + 1} {
		badSeats(t, "too many, all free", same(n, -1))
	}
	for _, n := range []int{65, 66, 128, 256, 320, 1024} {
		badSeats(t, "too many, all had", up(n, 0))
		bad(t, "too many, just as many that run", up(n, 0), up(n, 0))
		bad(t, "64, more that run", up(64, 0), up(n, 0))
		bad(t, "none, some that run", nil, up(n, 0))
	}
	bad(t, "none, one that runs", nil, []int{0})
}

func TestGoodIDs(t *testing.T) {
	for id := range 1024 {
		good(t, "each id with a seat", []int{id}, nil, true)
		good(t, "each id that runs", []int{-1}, []int{id}, true)
		good(t, "each id in both", []int{id}, []int{id}, true)
		good(t, "each id in both, elsewhere", []int{-1, 1023 - id, id}, []int{id, 1023 - id}, true)
		badSeats(t, "an id twice", []int{id, id})
		badSeats(t, "an id twice, others beside it", []int{-1, id, -1, (id + 1) % 1024, id})
		bad(t, "an id that runs twice", []int{-1, -1}, []int{id, id})
		bad(t, "an id that runs twice, and has a seat", []int{id, -1, -1}, []int{id, (id + 1) % 1024, id})
	}
	for _, id := range badIDs {
		badSeats(t, "a bad id alone", []int{id})
		badSeats(t, "a bad id first", []int{id, 1, -1})
		badSeats(t, "a bad id last", []int{-1, 1, id})
		badSeats(t, "a bad id as the 64th", append(up(63, 0), id))
		badSeats(t, "a bad id twice", []int{id, id})
		bad(t, "a bad id in both", []int{id, -1}, []int{id})
	}
	for _, id := range append(badIDs, -1) {
		bad(t, "a bad id that runs", []int{-1, -1, -1}, []int{id})
		bad(t, "a bad id that runs first", []int{7, -1, -1}, []int{id, 1, 7})
		bad(t, "a bad id that runs last", []int{7, -1, -1}, []int{7, 1, id})
		bad(t, "a bad id that runs as the 64th", same(64, -1), append(up(63, 0), id))
		bad(t, "a bad id that runs twice", []int{-1, -1, -1}, []int{id, id})
	}
	for _, free := range [][]int{{-1, -1}, {-1, 0, -1}, {0, -1, -1, 1023}, same(64, -1)} {
		good(t, "several free", free, nil, true)
		good(t, "several free", free, []int{1, 1023}, true)
	}
}

func TestGoodTwice(t *testing.T) {
	for i := range 64 {
		for j := range i {
			good(t, "64, one id twice", put(up(64, 0), i, j), nil, false)
			good(t, "64, one that runs twice", same(64, -1), put(up(64, 0), i, j), false)
			good(t, "64, two free", put(put(up(64, 0), i, -1), j, -1), nil, true)
		}
	}
}

func TestGive(t *testing.T) {
	for _, c := range []struct {
		what           string
		was, run, want []int
		moved          int
	}{
		{"one free, none that runs", []int{-1}, nil, []int{-1}, 0},
		{"one free", []int{-1}, []int{1023}, []int{1023}, 1},
		{"one that runs on", []int{0}, []int{0}, []int{0}, 0},
		{"one that gives way", []int{0}, []int{1}, []int{1}, 1},
		{"one that does not run", []int{0}, nil, []int{-1}, 0},
		{"all run on", []int{4, 2, 9}, []int{9, 4, 2}, []int{4, 2, 9}, 0},
		{"all run on, as they sit", []int{4, 2, 9}, []int{4, 2, 9}, []int{4, 2, 9}, 0},
		{"all run on, some free", []int{-1, 4, -1, 9, -1}, []int{9, 4}, []int{-1, 4, -1, 9, -1}, 0},
		{"some run on, the others go", []int{4, 2, 9}, []int{9, 4}, []int{4, -1, 9}, 0},
		{"none runs", []int{4, -1, 9}, []int{}, []int{-1, -1, -1}, 0},
		{"none of those that run has a seat", []int{4, 2, 9}, []int{7, 3, 5}, []int{7, 3, 5}, 3},
		{"none has a seat, all free", []int{-1, -1, -1}, []int{7, 3, 5}, []int{7, 3, 5}, 3},
		{"none has a seat, fewer than free", []int{-1, -1, -1, -1}, []int{7, 3}, []int{7, 3, -1, -1}, 2},
		{"none has a seat, fewer than seats", []int{4, 2, 9}, []int{7, 3}, []int{7, 3, -1}, 2},
		{"one in the middle runs on", []int{4, 2, 9}, []int{7, 2, 3}, []int{7, 2, 3}, 2},
		{"one in the middle runs on, told first", []int{4, 2, 9}, []int{2, 7, 3}, []int{7, 2, 3}, 2},
		{"one in the middle runs on, told last", []int{4, 2, 9}, []int{7, 3, 2}, []int{7, 2, 3}, 2},
		{"the first runs on", []int{4, 2, 9}, []int{7, 4, 3}, []int{4, 7, 3}, 2},
		{"the last runs on", []int{4, 2, 9}, []int{7, 9, 3}, []int{7, 3, 9}, 2},
		{"one new, two free", []int{4, -1, 9, -1}, []int{9, 1, 4}, []int{4, 1, 9, -1}, 1},
		{"one new, one goes, one free behind", []int{4, 2, 9, -1}, []int{9, 1, 4}, []int{4, 1, 9, -1}, 1},
		{"one new, one goes, one free ahead", []int{-1, 2, 9, 4}, []int{9, 1, 4}, []int{1, -1, 9, 4}, 1},
		{"two new, one goes, one free", []int{4, 2, -1}, []int{5, 4, 3}, []int{4, 5, 3}, 2},
		{"two new, falling", []int{4, 2, -1}, []int{8, 4, 3}, []int{4, 8, 3}, 2},
		{"two new, rising", []int{4, 2, -1}, []int{3, 4, 8}, []int{4, 3, 8}, 2},
		{"those that are new have others' numbers as CPUs", []int{2, 0, -1}, []int{1, 0}, []int{1, 0, -1}, 1},
		{"0 and 1023", []int{-1, 1023, 1}, []int{0, 1023}, []int{0, 1023, -1}, 1},
		{"0 runs on", []int{-1, 0}, []int{0}, []int{-1, 0}, 0},
		{"0 goes", []int{-1, 0}, []int{1}, []int{1, -1}, 1},
	} {
		gives(t, c.what, c.was, c.run, c.want, c.moved)
	}
}

func TestGiveMany(t *testing.T) {
	for n := 1; n <= api.MaxCPUs; n++ {
		turned := up(n, 0)
		slices.Reverse(turned)
		gives(t, "all run on", up(n, 0), turned, up(n, 0), 0)
		gives(t, "all new", up(n, 0), up(n, 64), up(n, 64), n)
		gives(t, "all free", same(n, -1), turned, turned, n)
		gives(t, "all go", up(n, 0), nil, same(n, -1), 0)
		for i := range n {
			gives(t, "one goes", up(n, 0), slices.Delete(up(n, 0), i, i+1), put(up(n, 0), i, -1), 0)
			gives(t, "one new", up(n, 0), put(turned, n-1-i, 999), put(up(n, 0), i, 999), 1)
			gives(t, "one new, one free", put(up(n, 0), i, -1), put(turned, n-1-i, 999), put(up(n, 0), i, 999), 1)
			gives(t, "one runs on", put(same(n, -1), i, 3), []int{3}, put(same(n, -1), i, 3), 0)
		}
	}
}

func TestFree(t *testing.T) {
	free(t, "nil", nil, 0)
	free(t, "none", []int{}, 0)
	free(t, "one free", []int{-1}, mask.Of(0))
	free(t, "one had", []int{0}, 0)
	free(t, "some", []int{-1, 0, -1, 5, 1023, -1}, mask.Of(0, 2, 5))
	free(t, "an id twice", []int{4, -1, 4, 4}, mask.Of(1))
	for n := range 65 {
		free(t, "all free", same(n, -1), mask.Full(n))
		free(t, "all had", up(n, 0), 0)
		for i := range n {
			free(t, "one free of several", put(up(n, 0), i, -1), mask.Of(i))
			free(t, "one had of several", put(same(n, -1), i, 0), mask.Full(n).Without(i))
		}
	}
	for _, id := range badIDs {
		free(t, "a bad id", []int{id}, 0)
		free(t, "bad ids", []int{id, -1, id, -1}, mask.Of(1, 3))
	}
}

// From the 64th on, counted from 0, a CPU is not told.
func TestFreeFar(t *testing.T) {
	for _, n := range []int{65, 66, 127, 128, 129, 255, 256, 257, 320, 1<<16 + 1} {
		free(t, "all free", same(n, -1), mask.Full(64))
		free(t, "all had", same(n, 7), 0)
		for _, i := range []int{0, 1, 62, 63} {
			free(t, "one free of the first 64", put(same(n, 7), i, -1), mask.Of(i))
		}
		for _, i := range []int{64, n / 2, n - 1} {
			if i >= 64 {
				free(t, "one free behind the first 64", put(same(n, 7), i, -1), 0)
				free(t, "one had behind the first 64", put(same(n, -1), i, 7), mask.Full(64))
			}
		}
	}
}

func TestAt(t *testing.T) {
	for _, id := range []int{0, 1, 5, 63, 64, 1022, 1023, 1024, 1 << 16, 1 << 32, 1<<32 + 5, math.MaxInt} {
		sits(t, "nil", nil, id, -1)
		sits(t, "none", []int{}, id, -1)
		sits(t, "one free", []int{-1}, id, -1)
		sits(t, "others", []int{-1, 3, 7, -2, math.MinInt}, id, -1)
		sits(t, "it alone", []int{id}, id, 0)
		sits(t, "it last", []int{3, -1, id}, id, 2)
		sits(t, "it twice", []int{3, id, -1, id}, id, 1)
		sits(t, "it all over", same(64, id), id, 0)
		for i := range 64 {
			sits(t, "it at each", put(same(64, -1), i, id), id, i)
			sits(t, "it at each and behind all", append(put(same(64, 3), i, id), id), id, i)
		}
		for _, i := range []int{64, 65, 128, 255, 256, 299} {
			sits(t, "it behind the first 64", put(same(300, -1), i, id), id, i)
		}
		sits(t, "very many others", same(1<<16+1, 3), id, -1)
	}
	for _, bad := range badIDs {
		sits(t, "bad ids beside it", []int{bad, 7, bad, 7}, 7, 1)
	}
}

// Of an id below 0 nothing is promised but that it ends.
func TestAtBelow(t *testing.T) {
	for _, id := range []int{-1, -2, -1024, -1 << 32, math.MinInt} {
		for _, was := range [][]int{nil, {}, {-1}, {id, id}, {3, -1, 7}, same(300, -1)} {
			old := slices.Clone(was)
			At(was, id)
			if !slices.Equal(was, old) {
				t.Errorf("R4: after At of id %d: %v, was %v", id, was, old)
			}
		}
	}
}

func TestSwap(t *testing.T) {
	was := []int{7, 2, -1, 0, -1, 1023}
	for _, c := range []struct {
		what    string
		cpu, id int
		want    []int
		out     int
	}{
		{"one to a free CPU ahead of it", 2, 0, []int{7, 2, 0, -1, -1, 1023}, -1},
		{"one to a free CPU behind it", 4, 7, []int{-1, 2, -1, 0, 7, 1023}, -1},
		{"one to another's CPU ahead of it", 0, 2, []int{2, -1, -1, 0, -1, 1023}, 7},
		{"one to another's CPU behind it", 1, 7, []int{-1, 7, -1, 0, -1, 1023}, 2},
		{"the first one to the last CPU", 5, 7, []int{-1, 2, -1, 0, -1, 7}, 1023},
		{"the last one to the first CPU", 0, 1023, []int{1023, 2, -1, 0, -1, -1}, 7},
		{"0 to another's CPU", 1, 0, []int{7, 0, -1, -1, -1, 1023}, 2},
		{"one to 0's CPU", 3, 2, []int{7, -1, -1, 2, -1, 1023}, 0},
		{"one where it is", 1, 2, was, 2},
		{"one where it is, at the first CPU", 0, 7, was, 7},
		{"one where it is, at the last CPU", 5, 1023, was, 1023},
		{"0 where it is", 3, 0, was, 0},
		{"a new one to a free CPU", 2, 5, []int{7, 2, 5, 0, -1, 1023}, -1},
		{"a new one to another's CPU", 1, 5, []int{7, 5, -1, 0, -1, 1023}, 2},
		{"a new one to the first CPU", 0, 1, []int{1, 2, -1, 0, -1, 1023}, 7},
		{"a new one to the last CPU", 5, 1022, []int{7, 2, -1, 0, -1, 1022}, 1023},
		{"nobody to another's CPU", 1, -1, []int{7, -1, -1, 0, -1, 1023}, 2},
		{"nobody to the first CPU", 0, -1, []int{-1, 2, -1, 0, -1, 1023}, 7},
		{"nobody to the last CPU", 5, -1, []int{7, 2, -1, 0, -1, -1}, 1023},
		{"nobody to a free CPU", 2, -1, was, -1},
		{"nobody to the other free CPU", 4, -1, was, -1},
	} {
		swaps(t, c.what, was, c.cpu, c.id, c.want, c.out)
	}
	swaps(t, "one CPU", []int{-1}, 0, 3, []int{3}, -1)
	swaps(t, "one CPU, another", []int{5}, 0, 3, []int{3}, 5)
	swaps(t, "one CPU, itself", []int{3}, 0, 3, []int{3}, 3)
	swaps(t, "one CPU, nobody", []int{3}, 0, -1, []int{-1}, 3)
}

func TestSwapWrong(t *testing.T) {
	for _, was := range [][]int{{-1}, {7}, {7, 2, -1}, same(63, -1), up(64, 0)} {
		n := len(was)
		for _, cpu := range []int{math.MinInt, -1 << 32, -1<<32 + 1, -65, -64, -2, -1, n, n + 1, n + 64, 256, 1 << 16, 1 << 32, 1<<32 + 1, math.MaxInt} {
			for _, id := range []int{-2, -1, 0, 7, 500, 1023, 1024} {
				swaps(t, "a cpu that is none", was, cpu, id, nil, -1)
			}
		}
		for _, id := range badIDs {
			swaps(t, "a bad id at the first cpu", was, 0, id, nil, -1)
			swaps(t, "a bad id at the last cpu", was, n-1, id, nil, -1)
		}
	}
}

// Every id may be at every CPU.
func TestSwapMany(t *testing.T) {
	for n := 1; n <= api.MaxCPUs; n++ {
		for cpu := range n {
			for i := range n {
				want := put(put(up(n, 0), i, -1), cpu, i)
				swaps(t, "one to another's CPU", up(n, 0), cpu, i, want, cpu)
			}
			swaps(t, "a new one", up(n, 0), cpu, 1023, put(up(n, 0), cpu, 1023), cpu)
			swaps(t, "a new one, all free", same(n, -1), cpu, cpu, put(same(n, -1), cpu, cpu), -1)
			swaps(t, "nobody", up(n, 0), cpu, -1, put(up(n, 0), cpu, -1), cpu)
			swaps(t, "nobody, all free", same(n, -1), cpu, -1, same(n, -1), -1)
		}
	}
}

// plenty is a list with spare room, in which something stands.
func plenty() []int { return []int{9, -1, 2, -1, 5, 11, -1, 12}[:5] }

// some are those that run, likewise.
func some() []int { return []int{1, 2, 3, 4, -1}[:3] }

func TestLeft(t *testing.T) {
	was, run := plenty(), some()
	for n := range 8 {
		for m := range 5 {
			Good(was[:n], run[:m])
			Give(was[:n], run[:m])
		}
		Free(was[:n])
		for id := -2; id < 14; id++ {
			At(was[:n], id)
			for cpu := -1; cpu < 9; cpu++ {
				Swap(was[:n], cpu, id)
			}
		}
	}
	if !slices.Equal(was[:8], plenty()[:8]) || !slices.Equal(run[:5], some()[:5]) {
		t.Errorf("R4: after calls: %v, %v", was[:8], run[:5])
	}
}

// spoil writes over an answer and its spare room.
func spoil(l []int) {
	for i := range l[:cap(l)] {
		l[:cap(l)][i] = -7
	}
}

func TestNew(t *testing.T) {
	for _, run := range [][]int{nil, {}, {9, 2, 5}, {9, 1, 3, 2, 5}, {0, 1, 3, 4, 6}, some()} {
		was, told := plenty(), slices.Clone(run)
		old, _ := Give(was, run)
		other, _ := Give(was, run)
		want := slices.Clone(other)
		spoil(old)
		if !slices.Equal(was[:8], plenty()[:8]) || !slices.Equal(run, told) || !slices.Equal(other, want) {
			t.Errorf("R4: after an answer of Give was changed: %v, %v, %v", was[:8], run, other)
		}
	}
	for cpu := range 5 {
		for _, id := range []int{-1, 0, 2, 5, 9} {
			was := plenty()
			old, _ := Swap(was, cpu, id)
			other, _ := Swap(was, cpu, id)
			want := slices.Clone(other)
			spoil(old)
			if !slices.Equal(was[:8], plenty()[:8]) || !slices.Equal(other, want) {
				t.Errorf("R4: after an answer of Swap was changed: %v, %v", was[:8], other)
			}
		}
	}
}

// check holds each call on was and run against the plain reckoning.
func check(t *testing.T, was, run []int) {
	t.Helper()
	oldWas, oldRun := slices.Clone(was), slices.Clone(run)
	good(t, "these", was, run, plainGood(was, run))
	want, moves := plainGive(was, run)
	gives(t, "these", was, run, want, moves)
	keeps(t, was, run)
	var gaps mask.Mask
	for cpu, id := range was {
		if id == -1 {
			gaps = gaps.With(cpu)
		}
	}
	free(t, "these", was, gaps)
	for _, id := range slices.Concat(was, run) {
		if id >= 0 {
			sits(t, "these", was, id, plainAt(was, id))
		}
	}
	if !slices.Equal(was, oldWas) || !slices.Equal(run, oldRun) {
		t.Errorf("R4: %v, %v, were %v, %v", was, run, oldWas, oldRun)
	}
	if t.Failed() {
		t.Fatalf("with %v, run %v", was, run)
	}
}

// keeps checks that who runs has one seat and nobody else has, that who had a
// seat keeps it, and that no more have moved than had none.
func keeps(t *testing.T, was, run []int) {
	t.Helper()
	now, moved := Give(was, run)
	if len(now) == 0 {
		return
	}
	had := 0
	for _, id := range run {
		if plainAt(was, id) >= 0 {
			had++
			if plainAt(now, id) != plainAt(was, id) {
				t.Errorf("P16.1: %d does not keep its seat: %v", id, now)
			}
		}
	}
	if moved != len(run)-had {
		t.Errorf("P16.1: %d moved, %d of %d had a seat", moved, had, len(run))
	}
	sitting := slices.DeleteFunc(now, func(id int) bool { return id == -1 })
	who := slices.Clone(run)
	slices.Sort(sitting)
	slices.Sort(who)
	if !slices.Equal(sitting, who) {
		t.Errorf("P16.1: seats have %v, want %v", sitting, who)
	}
}

// seating goes through all lists of up to n of ids, as new lists.
func seating(n int, ids []int, see func([]int)) {
	var grow func(l []int)
	grow = func(l []int) {
		see(slices.Clone(l))
		for _, id := range ids {
			if len(l) < n {
				grow(append(slices.Clone(l), id))
			}
		}
	}
	grow(nil)
}

// All seats of up to four and all runs of up to four, of a few ids.
func TestSmall(t *testing.T) {
	seating(4, []int{-1, 0, 1, 2}, func(was []int) {
		seating(4, []int{0, 2, 3}, func(run []int) { check(t, was, run) })
		for cpu := -1; cpu <= len(was); cpu++ {
			for id := -2; id < 4; id++ {
				now, who := plainSwap(was, cpu, id)
				swaps(t, "these", was, cpu, id, now, who)
			}
		}
	})
	seating(3, []int{-2, -1, 1023, 1024}, func(was []int) {
		seating(3, []int{-1, 0, 1023, 1024}, func(run []int) { check(t, was, run) })
	})
}

// lots is a row of numbers that look like any.
type lots uint64

func (l *lots) below(n int) int {
	*l = *l*6364136223846793005 + 1442695040888963407
	return int(uint64(*l) >> 33 % uint64(n))
}

// list makes n different ids of those below wide, mixed.
func (l *lots) list(n, wide int) []int {
	all := up(wide, 0)
	for i := range n {
		j := i + l.below(wide-i)
		all[i], all[j] = all[j], all[i]
	}
	return all[:n:n]
}

// spoilt puts an id that may not be into a list now and then.
func (l *lots) spoilt(some []int) {
	if len(some) > 0 && l.below(12) == 0 {
		some[l.below(len(some))] = []int{-2, -1, 1024, some[l.below(len(some))]}[l.below(4)]
	}
}

func TestByLot(t *testing.T) {
	l := lots(16)
	fine, still, part, all := 0, 0, 0, 0
	for i := range 6000 {
		n := 1 + i%64
		if i%2 == 0 {
			n = 1 + l.below(5)
		}
		wide := min(1024, n+[]int{1, 3, n, 960}[l.below(4)])
		was, run := l.list(n, wide), l.list(l.below(n+1), wide)
		for cpu := range was {
			if l.below(4) == 0 {
				was[cpu] = -1
			}
		}
		l.spoilt(was)
		l.spoilt(run)
		check(t, was, run)
		if !Good(was, run) {
			continue
		}
		fine++
		switch _, moved := Give(was, run); {
		case len(run) == 0:
		case moved == 0:
			still++
		case moved == len(run):
			all++
		default:
			part++
		}
	}
	for what, n := range map[string]int{"Good": fine, "of whom none moves": still, "of whom some move": part, "of whom all move": all} {
		if n < 250 {
			t.Errorf("the lot held %d %s", n, what)
		}
	}
}

// Seats that are swapped one after the other, many times, hold those that the
// plain reckoning tells, and never one twice.
func TestSwapByLot(t *testing.T) {
	l := lots(61)
	refused, freed, moved, pushed := 0, 0, 0, 0
	for _, n := range []int{1, 2, 3, 7, 16, 63, 64} {
		was := same(n, -1)
		for range 1500 {
			cpu, id := l.below(n+2)-1, l.below(2*n+2)-1
			if l.below(16) == 0 {
				id = []int{-2, -1, 0, 1023, 1024}[l.below(5)]
			}
			want, out := plainSwap(was, cpu, id)
			from := plainAt(was, id)
			swaps(t, "these", was, cpu, id, want, out)
			now, _ := Swap(was, cpu, id)
			switch {
			case now == nil:
				refused++
				continue
			case id < 0:
				freed++
			case from >= 0 && from != cpu:
				moved++
			case out >= 0 && out != id:
				pushed++
			}
			was = now
			good(t, "seats that Swap told", was, nil, true)
		}
	}
	for what, n := range map[string]int{"refused": refused, "freed": freed, "moved": moved, "pushed out": pushed} {
		if n < 200 {
			t.Errorf("the lot held %d %s", n, what)
		}
	}
}
