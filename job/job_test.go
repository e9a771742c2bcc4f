package job

import (
	"fmt"
	"math"
	"slices"
	"testing"

	"beadle/api"
	"beadle/prog"
)

const (
	most  = api.MaxStep // 2147483648
	least = math.MinInt64
	great = math.MaxInt64
)

// runs is steps of so many ticks each.
func runs(ticks ...int64) prog.Prog {
	p := prog.Prog{}
	for _, n := range ticks {
		p = append(p, prog.Step{N: n})
	}
	return p
}

// longest are as many steps as there may be, each as long as may be.
func longest() prog.Prog {
	return runs(most, most, most, most, most, most, most, most)
}

// goodProgs are some that are Good.
func goodProgs() []prog.Prog {
	return []prog.Prog{
		{{N: 3}, {Sem: 1, N: 2}}, // the chapter's own
		runs(1),
		runs(2),
		runs(most),
		runs(most - 1),
		{{Sem: 8, N: most}},
		runs(1, 1),
		{{Sem: 1, N: 1}, {Sem: 1, N: 1}, {Sem: 1, N: 1}},
		{{N: 5}, {Sem: 2, N: 4}, {N: 3}, {Sem: 8, N: 2}, {N: 1}},
		runs(1, 2, 3, 4, 5, 6, 7, 8),
		runs(8, 7, 6, 5, 4, 3, 2, 1),
		runs(1, 1, 1, 1, 1, 1, 1, 1),
		longest(),
	}
}

// wrongProgs are some that are not Good, each by one thing alone.
func wrongProgs() []prog.Prog {
	wrong := []prog.Prog{nil, {}, runs(1, 1, 1, 1, 1, 1, 1, 1, 1), make(prog.Prog, 1), make(prog.Prog, api.MaxSteps)}
	for _, steps := range []int{16, 255, 256, 257} {
		p := make(prog.Prog, steps)
		for i := range p {
			p[i].N = 1
		}
		wrong = append(wrong, p)
	}
	for _, n := range []int{1, 2, api.MaxSteps} {
		for at := range n {
			for _, sem := range []int{-1, -2, -1 << 32, math.MinInt, api.MaxSems + 1, 16, 256, 257, 1 << 32, 1<<32 + 1, math.MaxInt} {
				p := slices.Clone(longest()[:n])
				p[at].Sem = sem
				wrong = append(wrong, p)
			}
			for _, ticks := range []int64{0, -1, -2, -most, least, most + 1, most + 2, 1 << 32, 1<<32 + 1, api.Horizon, great} {
				p := slices.Clone(longest()[:n])
				p[at].N = ticks
				wrong = append(wrong, p)
			}
		}
	}
	return wrong
}

// goodNums are numbers that a job may have; noNums are none.
var (
	goodNums = []int64{1, 2, 3, 255, 256, 1 << 31, 1 << 32, 1<<32 + 1, api.Horizon, api.Horizon + 1, great - 1, great}
	noNums   = []int64{0, -1, -2, -255, -1 << 31, -1 << 32, -1<<32 + 1, -api.Horizon, least, least + 1}
)

// same tells whether two are alike.
func same(a, b Job) bool {
	return a.Num == b.Num && a.At == b.At && a.Done == b.Done && slices.Equal(a.Prog, b.Prog)
}

// goodJobs are some that are Good: each program at each step, at its length, and Done so many as are near an edge.
func goodJobs() []Job {
	var jobs []Job
	for i, p := range goodProgs() {
		num := goodNums[i%len(goodNums)]
		for at, s := range p {
			for _, done := range edges(s.N) {
				jobs = append(jobs, Job{num, p, at, done})
			}
		}
		jobs = append(jobs, Job{num, p, len(p), 0})
	}
	return jobs
}

// edges are how many of a step's ticks may be Done, near its ends and in its midst.
func edges(n int64) []int64 {
	some := []int64{0, 1, n / 2, n - 1, n}
	slices.Sort(some)
	return slices.Compact(some)
}

// wrongJobs are some that are not Good, each by one thing alone.
func wrongJobs() []Job {
	p := prog.Prog{{N: 3}, {Sem: 1, N: 2}}
	wrong := []Job{{}, {At: 1}, {Done: 1}, {Num: 1}, {Num: 1, Prog: prog.Prog{}}, {Num: 1, At: 1}, {Num: 1, Done: 1}, {Prog: p}}
	for _, num := range noNums {
		for at := range len(p) + 1 {
			wrong = append(wrong, Job{num, p, at, 0})
		}
		wrong = append(wrong, Job{num, p, 0, 1}, Job{num, p, 0, 3}, Job{num, p, 1, 2})
	}
	for _, none := range wrongProgs() {
		for at := range min(len(none), api.MaxSteps) + 1 {
			wrong = append(wrong, Job{1, none, at, 0})
		}
		wrong = append(wrong, Job{1, none, 0, 1})
	}
	for _, p := range goodProgs() {
		n := len(p)
		for _, at := range []int{-1, -2, -n, -n - 1, -1 << 32, math.MinInt, n + 1, n + 2, 2*n + 1, 256 + n, 1<<32 + n, math.MaxInt} {
			wrong = append(wrong, Job{1, p, at, 0}, Job{1, p, at, 1})
		}
		for at, s := range p {
			for _, done := range []int64{-1, -2, -s.N, -most - 1, -1 << 32, least, least + 1, s.N + 1, s.N + 2, 2*s.N + 1, 1<<32 + s.N, api.Horizon, great} {
				wrong = append(wrong, Job{1, p, at, done})
			}
		}
		for _, done := range []int64{1, -1, 2, p[n-1].N, p[0].N, most, 1 << 32, -1 << 32, least, great} {
			wrong = append(wrong, Job{1, p, n, done})
		}
	}
	return wrong
}

func TestExample(t *testing.T) {
	p, _ := prog.Parse("3+2@1")
	j, ok := New(1, p)
	j, ran := Run(j, 2)
	if left := Left(j); !ok || ran != 2 || left != 3 {
		t.Errorf("P11.1: of 3+2@1, Run 2: %v, %d, Left %d, want 3", ok, ran, left)
	}
}

func TestNew(t *testing.T) {
	for _, num := range goodNums {
		for _, p := range goodProgs() {
			if j, ok := New(num, p); !ok || !same(j, Job{num, p, 0, 0}) || !Good(j) {
				t.Errorf("P11.1: New(%d, %v): %v, %v", num, p, j, ok)
			}
		}
	}
}

func TestNewRefuses(t *testing.T) {
	for _, num := range noNums {
		for _, p := range slices.Concat(goodProgs(), wrongProgs()) {
			refuses(t, num, p)
		}
	}
	for _, num := range goodNums {
		for _, p := range wrongProgs() {
			refuses(t, num, p)
		}
	}
}

// refuses holds that New makes none of these.
func refuses(t *testing.T, num int64, p prog.Prog) {
	t.Helper()
	if j, ok := New(num, p); ok || !same(j, Job{}) {
		t.Errorf("P11.1: New(%d, %v): %v, %v, want none", num, p, j, ok)
	}
}

// A job stays as it was, when what New was handed turns; and so does that, when the job's steps turn.
func TestNewKeepsNoSteps(t *testing.T) {
	for _, p := range goodProgs() {
		for _, spare := range []int{0, 1, 16} {
			own := append(make(prog.Prog, 0, len(p)+spare), p...)
			j, _ := New(5, own)
			spoil(own)
			if !same(j, Job{5, p, 0, 0}) || Left(j) != prog.Total(p) {
				t.Errorf("P11.1: New of %v: %v, when what it was handed turned", p, j)
			}
			copy(own, p)
			other, _ := New(5, own)
			spoil(j.Prog)
			if !slices.Equal(own, p) || !same(other, Job{5, p, 0, 0}) {
				t.Errorf("P11.1: New of %v: %v and %v, when the job of it turned", p, own, other)
			}
		}
	}
}

// spoil turns each step, and those in the spare room.
func spoil(p prog.Prog) {
	for i := range p[:cap(p)] {
		p[:cap(p)][i] = prog.Step{Sem: -7, N: -7}
	}
}

func TestGood(t *testing.T) {
	for _, j := range goodJobs() {
		if !Good(j) {
			t.Errorf("P11.1: Good of %v: false", j)
		}
	}
	for _, num := range goodNums {
		if j := (Job{num, runs(4), 0, 4}); !Good(j) {
			t.Errorf("P11.1: Good of %v: false", j)
		}
	}
}

// Of what is not Good: false, 0, and the job as it is.
func TestNotGood(t *testing.T) {
	for _, j := range wrongJobs() {
		if Good(j) {
			t.Errorf("P11.1: Good of %v: true", j)
		}
		if s, ok := Step(j); ok || s != (prog.Step{}) {
			t.Errorf("P11.1: Step of %v: %v, %v, want none", j, s, ok)
		}
		if left := Left(j); left != 0 {
			t.Errorf("P11.1: Left of %v: %d, want 0", j, left)
		}
		for _, n := range []int64{least, -1, 0, 1, 2, most, great} {
			if k, ran := Run(j, n); ran != 0 || !same(k, j) {
				t.Errorf("P11.1: Run(%v, %d): %v, %d, want it as it is", j, n, k, ran)
			}
		}
		if k, ok := Next(j); ok || !same(k, j) {
			t.Errorf("P11.1: Next of %v: %v, %v, want it as it is", j, k, ok)
		}
	}
}

func TestStep(t *testing.T) {
	for _, p := range goodProgs() {
		for at, want := range p {
			for _, done := range edges(want.N) {
				j := Job{9, p, at, done}
				if s, ok := Step(j); !ok || s != want {
					t.Errorf("P11.1: Step of %v: %v, %v, want %v", j, s, ok, want)
				}
			}
		}
		j := Job{9, p, len(p), 0}
		if s, ok := Step(j); ok || s != (prog.Step{}) {
			t.Errorf("P11.1: Step of %v: %v, %v, want none", j, s, ok)
		}
	}
}

func TestLeft(t *testing.T) {
	p := prog.Prog{{N: 3}, {Sem: 1, N: 2}, {N: 5}}
	for _, c := range []struct {
		j    Job
		want int64
	}{
		{Job{1, p, 0, 0}, 10}, {Job{1, p, 0, 1}, 9}, {Job{1, p, 0, 2}, 8}, {Job{1, p, 0, 3}, 7},
		{Job{1, p, 1, 0}, 7}, {Job{1, p, 1, 1}, 6}, {Job{1, p, 1, 2}, 5},
		{Job{1, p, 2, 0}, 5}, {Job{1, p, 2, 4}, 1}, {Job{1, p, 2, 5}, 0}, {Job{1, p, 3, 0}, 0},
		{Job{1, runs(1), 0, 0}, 1}, {Job{1, runs(1), 0, 1}, 0}, {Job{1, runs(1), 1, 0}, 0},
		{Job{great, longest(), 0, 0}, 17179869184}, {Job{1, longest(), 0, 1}, 17179869183},
		{Job{1, longest(), 0, most}, 15032385536}, {Job{1, longest(), 1, 0}, 15032385536},
		{Job{1, longest(), 4, 1 << 30}, 7516192768}, {Job{1, longest(), 7, 0}, most},
		{Job{1, longest(), 7, most - 1}, 1}, {Job{1, longest(), 7, most}, 0}, {Job{1, longest(), 8, 0}, 0},
	} {
		if left := Left(c.j); left != c.want {
			t.Errorf("P11.1: Left of %v: %d, want %d", c.j, left, c.want)
		}
	}
	for _, p := range goodProgs() {
		if j, _ := New(1, p); Left(j) != prog.Total(p) {
			t.Errorf("P11.1: Left of a new job of %v: %d, want %d", p, Left(j), prog.Total(p))
		}
	}
}

func TestRun(t *testing.T) {
	p := prog.Prog{{N: 3}, {Sem: 1, N: 2}}
	for _, c := range []struct {
		at        int
		done      int64
		n         int64
		then, ran int64
	}{
		{0, 0, least, 0, 0}, {0, 0, -2, 0, 0}, {0, 0, -1, 0, 0}, {0, 0, 0, 0, 0},
		{0, 0, 1, 1, 1}, {0, 0, 2, 2, 2}, {0, 0, 3, 3, 3}, {0, 0, 4, 3, 3}, {0, 0, 5, 3, 3}, {0, 0, great, 3, 3},
		{0, 2, least, 2, 0}, {0, 2, -1, 2, 0}, {0, 2, 0, 2, 0}, {0, 2, 1, 3, 1}, {0, 2, 2, 3, 1}, {0, 2, great, 3, 1},
		{0, 3, -1, 3, 0}, {0, 3, 0, 3, 0}, {0, 3, 1, 3, 0}, {0, 3, great, 3, 0},
		{1, 0, -1, 0, 0}, {1, 0, 1, 1, 1}, {1, 0, 2, 2, 2}, {1, 0, 3, 2, 2}, {1, 0, 1<<32 + 1, 2, 2},
		{1, 1, 1, 2, 1}, {1, 1, 2, 2, 1}, {1, 1, great, 2, 1}, {1, 2, 1, 2, 0}, {1, 2, great, 2, 0},
		{2, 0, least, 0, 0}, {2, 0, -1, 0, 0}, {2, 0, 0, 0, 0}, {2, 0, 1, 0, 0}, {2, 0, great, 0, 0},
	} {
		j := Job{6, p, c.at, c.done}
		if k, ran := Run(j, c.n); ran != c.ran || !same(k, Job{6, p, c.at, c.then}) {
			t.Errorf("P11.1: Run(%v, %d): %v, %d, want Done %d, %d", j, c.n, k, ran, c.then, c.ran)
		}
	}
}

// At each place of each job: just what its step still takes, one less, one more, and far more.
func TestRunNeverBeyondItsStep(t *testing.T) {
	for _, j := range goodJobs() {
		still := int64(0)
		if j.At < len(j.Prog) {
			still = j.Prog[j.At].N - j.Done
		}
		for _, n := range []int64{least, least + 1, -1 << 32, -most, -still - 1, -still, -1, 0, 1, still - 1, still, still + 1, most, most + 1, 1 << 32, 1<<32 + 1, api.Horizon, great - 1, great} {
			want := max(0, min(n, still))
			k, ran := Run(j, n)
			if ran != want || !same(k, Job{j.Num, j.Prog, j.At, j.Done + want}) || !Good(k) || Left(k) != Left(j)-want {
				t.Errorf("P11.1: Run(%v, %d): %v, %d, want %d", j, n, k, ran, want)
			}
		}
	}
}

func TestNext(t *testing.T) {
	p := prog.Prog{{N: 3}, {Sem: 1, N: 2}}
	for _, c := range []struct {
		at   int
		done int64
		to   int
		then int64
		ok   bool
	}{
		{0, 0, 0, 0, false}, {0, 1, 0, 1, false}, {0, 2, 0, 2, false}, {0, 3, 1, 0, true},
		{1, 0, 1, 0, false}, {1, 1, 1, 1, false}, {1, 2, 2, 0, true}, {2, 0, 2, 0, false},
	} {
		j := Job{6, p, c.at, c.done}
		if k, ok := Next(j); ok != c.ok || !same(k, Job{6, p, c.to, c.then}) {
			t.Errorf("P11.1: Next of %v: %v, %v, want At %d, Done %d, %v", j, k, ok, c.to, c.then, c.ok)
		}
	}
	for _, j := range goodJobs() {
		want, may := j, j.At < len(j.Prog) && j.Done == j.Prog[j.At].N
		if may {
			want.At, want.Done = j.At+1, 0
		}
		if k, ok := Next(j); ok != may || !same(k, want) || !Good(k) || Left(k) != Left(j) {
			t.Errorf("P11.1: Next of %v: %v, %v, want %v, %v", j, k, ok, want, may)
		}
	}
}

// asked asks every call about one.
func asked(j Job) string {
	step, there := Step(j)
	far, ran := Run(j, 2)
	stays, none := Run(j, -1)
	next, ok := Next(j)
	fresh, may := New(j.Num, j.Prog)
	return fmt.Sprint(Good(j), step, there, Left(j), far, ran, stays, none, next, ok, fresh, may)
}

// No call changes what it was handed, spare room included, and each answers the same again.
func TestKeepsWhatItWasHanded(t *testing.T) {
	for _, j := range slices.Concat(goodJobs(), wrongJobs()) {
		spare := prog.Step{Sem: -7, N: -7}
		steps := append(slices.Clone(j.Prog), spare, spare)
		before := slices.Clone(steps)
		mine := Job{j.Num, steps[:len(j.Prog)], j.At, j.Done}
		first := asked(mine)
		if again := asked(mine); again != first {
			t.Errorf("P11.1: of %v: %s, and then %s", j, first, again)
		}
		if !slices.Equal(steps, before) || !same(mine, j) {
			t.Errorf("P11.1: %v came of %v", mine, j)
		}
	}
}

// The job that is answered has steps of its own, spare room too: of what is not Good as well.
func TestAnswersAreNewMemory(t *testing.T) {
	for _, j := range slices.Concat(goodJobs(), wrongJobs()) {
		for _, spare := range []int{0, 16} {
			steps := append(make(prog.Prog, 0, len(j.Prog)+spare), j.Prog...)
			mine := Job{j.Num, steps, j.At, j.Done}
			far, _ := Run(mine, 1)
			stays, _ := Run(mine, 0)
			next, _ := Next(mine)
			spoil(far.Prog)
			spoil(stays.Prog)
			spoil(next.Prog)
			room := steps[len(steps):cap(steps)]
			if !same(mine, j) || slices.ContainsFunc(room, func(s prog.Step) bool { return s != prog.Step{} }) {
				t.Errorf("P11.1: %v, and %v in its spare room, when the answers about it turned", mine, room)
			}
			far, _ = Run(mine, 1)
			stays, _ = Run(mine, 0)
			next, _ = Next(mine)
			spoil(steps)
			if !slices.Equal(far.Prog, j.Prog) || !slices.Equal(stays.Prog, j.Prog) || !slices.Equal(next.Prog, j.Prog) {
				t.Errorf("P11.1: %v, %v and %v, when %v turned", far, stays, next, j)
			}
		}
	}
}

// lots is a row of numbers by lot.
type lots uint64

func (l *lots) below(n int64) int64 {
	*l = *l*6364136223846793005 + 1442695040888963407
	return int64(*l>>33) % n
}

// prog is a Good one by lot.
func (l *lots) prog() prog.Prog {
	var p prog.Prog
	for range 1 + l.below(api.MaxSteps) {
		// By digits, so that numbers of all lengths come.
		ticks := 1 + l.below(int64(math.Pow10(int(l.below(10)))))
		if l.below(9) == 0 {
			ticks = most - l.below(3)
		}
		p = append(p, prog.Step{Sem: int(l.below(api.MaxSems + 1)), N: ticks})
	}
	return p
}

// part is how far a job is to run at once, by lot: at times not at all, at times more than any step takes.
func (l *lots) part(still int64) int64 {
	switch l.below(6) {
	case 0:
		return -l.below(3)
	case 1:
		return great - l.below(3)
	case 2:
		return still - 1 + l.below(3)
	}
	return l.below(min(still+1, 1<<31-1)) + l.below(2)
}

// Many jobs, run in parts of any size to their end: the ticks together are all that the steps take.
func TestByLot(t *testing.T) {
	lot := lots(11)
	for range 3000 {
		p := lot.prog()
		num := 1 + lot.below(1<<30)<<lot.below(33)
		j, ok := New(num, p)
		if !ok || Left(j) != prog.Total(p) {
			t.Fatalf("P11.1: New(%d, %v): %v, %v", num, p, j, ok)
		}
		if all := runToEnd(t, &lot, j); all != prog.Total(p) {
			t.Errorf("P11.1: of %v: %d ticks in all, want %d", p, all, prog.Total(p))
		}
	}
}

// runToEnd runs a job by parts to its end, holding each call against plain counts; it tells how many ticks that took.
func runToEnd(t *testing.T, lot *lots, j Job) int64 {
	t.Helper()
	all, left := int64(0), prog.Total(j.Prog)
	for at, s := range j.Prog {
		for done := int64(0); ; {
			if got, ok := Step(j); !ok || got != s || !Good(j) || !same(j, Job{j.Num, j.Prog, at, done}) || Left(j) != left {
				t.Fatalf("P11.1: %v: Step %v, %v, Left %d, want At %d, Done %d, Left %d", j, got, ok, Left(j), at, done, left)
			}
			if k, ok := Next(j); ok != (done == s.N) || !ok && !same(k, j) {
				t.Fatalf("P11.1: Next of %v: %v, %v", j, k, ok)
			}
			if done == s.N && lot.below(2) == 0 {
				break
			}
			n := lot.part(s.N - done)
			k, ran := Run(j, n)
			if want := max(0, min(n, s.N-done)); ran != want {
				t.Fatalf("P11.1: Run(%v, %d): %d, want %d", j, n, ran, want)
			}
			j, done, all, left = k, done+ran, all+ran, left-ran
		}
		j, _ = Next(j)
	}
	_, there := Step(j)
	k, more := Next(j)
	if l, ran := Run(j, great); there || more || ran != 0 || !same(k, j) || !same(l, j) || Left(j) != 0 || !Good(j) || !same(j, Job{j.Num, j.Prog, len(j.Prog), 0}) {
		t.Errorf("P11.1: at its end: %v: Step %v, Next %v, Run %d, Left %d", j, there, more, ran, Left(j))
	}
	return all
}
