package prog

import (
	"fmt"
	"math"
	"regexp"
	"slices"
	"strings"
	"testing"

	"beadle/api"
)

// noSems are no semaphores: below, above, and such that a lesser kind of number would take them for one.
var noSems = []int{-1, -2, -8, -256, -1 << 32, math.MinInt, math.MinInt + 1, api.MaxSems + 1, api.MaxSems + 2, 16, 255, 256, 257, 1 << 16, 1<<16 + 1, 1 << 32, 1<<32 + 1, math.MaxInt}

// noTicks are none that a step may take.
var noTicks = []int64{0, -1, -2, -api.MaxStep, -1 << 32, math.MinInt64, math.MinInt64 + 1, api.MaxStep + 1, api.MaxStep + 2, 1 << 32, 1<<32 + 1, api.Horizon, math.MaxInt64}

// runs is steps that run, each one tick.
func runs(n int) Prog {
	p := Prog{}
	for range n {
		p = append(p, Step{N: 1})
	}
	return p
}

// with is a list with one step in the place of another.
func with(p Prog, at int, s Step) Prog {
	q := slices.Clone(p)
	q[at] = s
	return q
}

// wrongs are such that are not Good, each by one thing alone.
func wrongs() []Prog {
	wrong := []Prog{nil, {}, runs(api.MaxSteps + 1), runs(api.MaxSteps + 2), runs(2 * api.MaxSteps), runs(256), runs(257), make(Prog, 1), make(Prog, api.MaxSteps), make(Prog, api.MaxSteps+1)}
	for _, n := range []int{1, 2, 3, api.MaxSteps} {
		for at := range n {
			for _, sem := range noSems {
				wrong = append(wrong, with(runs(n), at, Step{Sem: sem, N: 1}))
			}
			for _, ticks := range noTicks {
				wrong = append(wrong, with(runs(n), at, Step{N: ticks}), with(runs(n), at, Step{Sem: api.MaxSems, N: ticks}))
			}
		}
	}
	return wrong
}

// known is one that is Good, and what is asked of it.
type known struct {
	p     Prog
	text  string
	total int64
	holds int
	sem   int // the greatest that it holds
}

const most = api.MaxStep // 2147483648

// goods are some that are Good, worked out by hand.
func goods() []known {
	return []known{
		{Prog{{0, 3}, {1, 2}}, "3+2@1", 5, 1, 1}, // the chapter's own
		{Prog{{0, 1}}, "1", 1, 0, 0},
		{Prog{{0, 10}}, "10", 10, 0, 0},
		{Prog{{0, most}}, "2147483648", 2147483648, 0, 0},
		{Prog{{0, most - 1}}, "2147483647", 2147483647, 0, 0},
		{Prog{{1, 1}}, "1@1", 1, 1, 1},
		{Prog{{8, 1}}, "1@8", 1, 1, 8},
		{Prog{{1, most}}, "2147483648@1", 2147483648, 1, 1},
		{Prog{{8, most}}, "2147483648@8", 2147483648, 1, 8},
		{Prog{{4, 7}, {4, 9}}, "7@4+9@4", 16, 2, 4},
		{Prog{{2, 5}, {0, 6}, {2, 5}}, "5@2+6+5@2", 16, 2, 2},
		{Prog{{7, 100}, {0, 20}, {3, 1}}, "100@7+20+1@3", 121, 2, 7},
		{Prog{{0, 1}, {8, most}, {0, 1}}, "1+2147483648@8+1", 2147483650, 1, 8},
		{Prog{{1, 1}, {2, 2}, {3, 3}, {4, 4}, {5, 5}, {6, 6}, {7, 7}, {8, 8}}, "1@1+2@2+3@3+4@4+5@5+6@6+7@7+8@8", 36, 8, 8},
		{Prog{{5, 1}, {5, 1}, {5, 1}, {5, 1}, {5, 1}, {5, 1}, {5, 1}, {5, 1}}, "1@5+1@5+1@5+1@5+1@5+1@5+1@5+1@5", 8, 8, 5},
		{runs(8), "1+1+1+1+1+1+1+1", 8, 0, 0},
		{Prog{{0, most}, {0, most}, {0, most}, {0, most}, {0, most}, {0, most}, {0, most}, {0, most}}, "2147483648" + strings.Repeat("+2147483648", 7), 17179869184, 0, 0},
		{Prog{{8, most}, {8, most}, {8, most}, {8, most}, {8, most}, {8, most}, {8, most}, {8, most}}, "2147483648@8" + strings.Repeat("+2147483648@8", 7), 17179869184, 8, 8},
	}
}

func TestExample(t *testing.T) {
	if got := Text(Prog{{Sem: 0, N: 3}, {Sem: 1, N: 2}}); got != "3+2@1" {
		t.Errorf("P10.1: Text of run 3, hold 1 for 2: %q", got)
	}
}

func TestGood(t *testing.T) {
	for n := 1; n <= api.MaxSteps; n++ {
		if !Good(runs(n)) {
			t.Errorf("P10.1: Good of %d steps: false", n)
		}
		for at := range n {
			for sem := range api.MaxSems + 1 {
				for _, ticks := range []int64{1, 2, 9, 10, 1 << 16, 1<<31 - 1, most} {
					if p := with(runs(n), at, Step{sem, ticks}); !Good(p) {
						t.Errorf("P10.1: Good of %v: false", p)
					}
				}
			}
		}
	}
	for _, k := range goods() {
		if !Good(k.p) {
			t.Errorf("P10.1: Good of %v: false", k.p)
		}
	}
}

func TestNotGood(t *testing.T) {
	for _, p := range wrongs() {
		if Good(p) {
			t.Errorf("P10.1: Good of %v: true", p)
		}
		if got := Total(p); got != 0 {
			t.Errorf("P10.1: Total of %v: %d, want 0", p, got)
		}
		if got := Holds(p); got != 0 {
			t.Errorf("P10.1: Holds of %v: %d, want 0", p, got)
		}
		if got := Text(p); got != "" {
			t.Errorf("P10.1: Text of %v: %q, want none", p, got)
		}
		for n := range api.MaxSems + 2 {
			if Fits(p, make([]int64, n)) {
				t.Errorf("P10.1: Fits of %v, %d sems: true", p, n)
			}
		}
	}
}

// What is not Good tells nothing, though the steps beside the wrong one run and hold.
func TestNotGoodBesideGood(t *testing.T) {
	p := Prog{{1, 5}, {0, 7}, {8, most}, {0, 0}}
	if Good(p) || Total(p) != 0 || Holds(p) != 0 || Text(p) != "" || Fits(p, make([]int64, 8)) {
		t.Errorf("P10.1: of %v: %v, %d, %d, %q, %v", p, Good(p), Total(p), Holds(p), Text(p), Fits(p, make([]int64, 8)))
	}
}

func TestTotal(t *testing.T) {
	for _, k := range goods() {
		if got := Total(k.p); got != k.total {
			t.Errorf("P10.1: Total of %v: %d, want %d", k.p, got, k.total)
		}
	}
}

func TestHolds(t *testing.T) {
	for _, k := range goods() {
		if got := Holds(k.p); got != k.holds {
			t.Errorf("P10.1: Holds of %v: %d, want %d", k.p, got, k.holds)
		}
	}
}

func TestText(t *testing.T) {
	for _, k := range goods() {
		if got := Text(k.p); got != k.text {
			t.Errorf("P10.1: Text of %v: %q, want %q", k.p, got, k.text)
		}
	}
}

func TestParse(t *testing.T) {
	for _, k := range goods() {
		if got, ok := Parse(k.text); !ok || !slices.Equal(got, k.p) {
			t.Errorf("P10.1: Parse(%q): %v, %v, want %v", k.text, got, ok, k.p)
		}
	}
}

// refusedTexts are such that Text writes of none.
func refusedTexts() []string {
	long := strings.Repeat("9", 4096)
	return []string{
		"",
		"0", "00", "01", "001", "0x1", "03+2@1", "3+02@1", "3+2@01", "1@08", "1@00", "1@001", "02147483648", "00000000000000000001", "1+0", "0+1", "1+0+1", "0@1", "0@0", "1@0", "1@0+1", "1+1@0", "00@1",
		"1@9", "1@10", "1@11", "1@80", "1@88", "1@256", "1@257", "1@65537", "1@4294967297", "1@18446744073709551617", "1@" + long, "1@9+1", "1+1@9", "1+1@9+1",
		"2147483649", "2147483650", "2147483658", "2147483700", "3000000000", "4294967296", "4294967297", "9999999999", "21474836480", "9223372036854775807", "9223372036854775808", "9223372036854775809", "18446744073709551615", "18446744073709551616", "18446744073709551617", "18446744073709551619", "36893488147419103233", "340282366920938463463374607431768211457", long, "1" + strings.Repeat("0", 4096), "2147483649@1", "1+2147483649", "2147483649+1", "1+2147483649+1", long + "@1", "1+" + long,
		"-1", "-0", "--1", "-2147483648", "1@-1", "1@-0", "-1@1", "1-1", "-", "1@+1", "+1@1", "1@1-", "1-",
		" ", " 1", "1 ", "1 +1", "1+ 1", "1 + 1", "1 @1", "1@ 1", "1@1 ", " 1@1", "1 2", "\t1", "1\n", "1\r", "1\v", "1+1\n", "1\n+1", "1@1\n",
		"+", "++", "+1", "1+", "+1+1", "1+1+", "1++1", "1+++1", "+1+", "1@1+", "+1@1", "1@1++1@1", "1+1+1+1+1+1+1+1+", "+1+1+1+1+1+1+1+1",
		"@", "@@", "@1", "1@", "1@1@", "@1@1", "1@@1", "1@1@1", "1@1@1@1", "@+@", "1+@1", "@1+1", "1@+1", "1@1+@", "1+1@", "1+@", "+@", "@+", "1@+", "+@1",
		"x", "1x", "x1", "1@x", "x@1", "1e3", "1_000", "1.0", "1.", ".1", "1,1", "1,000", "1;1", "1/1", "1:1", ":", "/", "1@/", "1@:", "0b1", "0o7", "0x10", "1a", "aa", "1@1a", "nil", "3+2@1x", "x3+2@1",
		"\x00", "1\x00", "\x001", "1@\x001", "\xff", "1\xff", "1@\xff", "\xb1", "1\xb1", "1@\xb1", "\x80\x80", "\u0661", "1\u0662", "1@\u0661", "\uff11", "1\uff0b1", "1\uff201", "\u00b2", "1\u00a0",
		"1+1+1+1+1+1+1+1+1", "1@1+1@1+1@1+1@1+1@1+1@1+1@1+1@1+1@1", strings.Repeat("1+", 255) + "1", strings.Repeat("1+", 256) + "1", strings.Repeat("1+", 4096) + "1", "1+1+1+1+1+1+1+1+0", "1+1+1+1+1+1+1+1+x", "1+1+1+1+1+1+1+1+@",
	}
}

func TestParseRefuses(t *testing.T) {
	for _, s := range refusedTexts() {
		if got, ok := Parse(s); ok || len(got) != 0 {
			t.Errorf("P10.1: Parse(%.80q): %v, %v, want none", s, got, ok)
		}
	}
}

// In each place of a text that is read, each byte in the place of another, ahead of it, and gone.
func TestParseChanged(t *testing.T) {
	for _, s := range []string{"1", "8", "10", "1@1", "3+2@1", "2147483648@8", "2147483648+1", "1+1+1+1+1+1+1+1"} {
		for at := range len(s) + 1 {
			for b := range 256 {
				parsesLikePlain(t, s[:at]+string([]byte{byte(b)})+s[at:])
				if at < len(s) {
					parsesLikePlain(t, s[:at]+string([]byte{byte(b)})+s[at+1:])
				}
			}
			if at < len(s) {
				parsesLikePlain(t, s[:at]+s[at+1:])
			}
		}
	}
}

// All short texts of these bytes.
func TestParseShort(t *testing.T) {
	const bytes = "0189@+- "
	texts := []string{""}
	for range 5 {
		var longer []string
		for _, s := range texts {
			for _, b := range bytes {
				longer = append(longer, s+string(b))
			}
		}
		for _, s := range longer {
			parsesLikePlain(t, s)
		}
		texts = longer
	}
}

// form is what a text of steps looks like, but for how many and how great.
var form = regexp.MustCompile(`^[1-9][0-9]*(@[1-8])?(\+[1-9][0-9]*(@[1-8])?)*$`)

// plainParse reads a text in another way: its form first, and then each step of it.
func plainParse(s string) (Prog, bool) {
	if !form.MatchString(s) || strings.Count(s, "+") >= 8 {
		return nil, false
	}
	var p Prog
	for text := range strings.SplitSeq(s, "+") {
		var step Step
		ticks := strings.Split(text, "@")[0]
		if len(ticks) > 10 || len(ticks) == 10 && ticks > "2147483648" {
			return nil, false
		}
		fmt.Sscanf(text+"@0", "%d@%d", &step.N, &step.Sem)
		p = append(p, step)
	}
	return p, true
}

// parsesLikePlain holds what is read of a text, and that it is written so again.
func parsesLikePlain(t *testing.T, s string) {
	t.Helper()
	got, ok := Parse(s)
	want, may := plainParse(s)
	if ok != may || !slices.Equal(got, want) {
		t.Errorf("P10.1: Parse(%q): %v, %v, want %v, %v", s, got, ok, want, may)
	}
	if ok && (!Good(got) || Text(got) != s) {
		t.Errorf("P10.1: Parse(%q): %v, whose Text is %q", s, got, Text(got))
	}
}

func TestFits(t *testing.T) {
	for _, k := range goods() {
		for n := range 2 * api.MaxSems {
			for _, spare := range []int{0, 16} {
				if got, want := Fits(k.p, make([]int64, n, n+spare)), k.sem <= n; got != want {
					t.Errorf("P10.1: Fits of %s, %d sems, room for %d more: %v, want %v", k.text, n, spare, got, want)
				}
			}
		}
		if got, want := Fits(k.p, nil), k.sem == 0; got != want {
			t.Errorf("P10.1: Fits of %s, nil: %v, want %v", k.text, got, want)
		}
	}
	for at := range api.MaxSteps {
		for sem := range api.MaxSems + 1 {
			p := with(runs(api.MaxSteps), at, Step{sem, 1})
			for n := range api.MaxSems + 2 {
				if got, want := Fits(p, make([]int64, n)), sem <= n; got != want {
					t.Errorf("P10.1: Fits of %s, %d sems: %v, want %v", Text(p), n, got, want)
				}
			}
		}
	}
}

// How many sems there are counts alone, whatever their numbers are.
func TestFitsAnyNumbers(t *testing.T) {
	for _, number := range []int64{0, 1, 2, -1, -2, api.MaxSection, api.MaxSection + 1, -1 << 32, 1 << 32, math.MinInt64, math.MaxInt64} {
		sems := []int64{number, number, number}
		for sem := range api.MaxSems + 1 {
			for _, p := range []Prog{{{sem, 1}}, {{0, most}, {sem, most}}} {
				if got, want := Fits(p, sems), sem <= 3; got != want {
					t.Errorf("P10.1: Fits of %s, %v: %v, want %v", Text(p), sems, got, want)
				}
			}
		}
	}
}

// asked asks every call about one.
func asked(p Prog, sems []int64) string {
	return fmt.Sprintf("%v %d %d %q %v", Good(p), Total(p), Holds(p), Text(p), Fits(p, sems))
}

// keeps holds that no call changes what it was handed, spare room included, and that each answers the same again.
func keeps(t *testing.T, p Prog) {
	t.Helper()
	spare := Step{-7, -7}
	steps := append(slices.Clone(p), spare, spare)
	sems := []int64{9, 0, -1, 5, 5}
	before := slices.Clone(steps)
	first := asked(steps[:len(p)], sems[:3])
	if again := asked(steps[:len(p)], sems[:3]); again != first {
		t.Errorf("P10.1: of %v: %s, and then %s", p, first, again)
	}
	if !slices.Equal(steps, before) || !slices.Equal(sems, []int64{9, 0, -1, 5, 5}) {
		t.Errorf("P10.1: %v, %v came of %v", steps, sems, before)
	}
}

func TestKeepsWhatItWasHanded(t *testing.T) {
	for _, k := range goods() {
		keeps(t, k.p)
	}
	for _, p := range wrongs() {
		keeps(t, p)
	}
}

// What was parsed is nobody else's: not of the same text, and not in its spare room.
func TestParseIsNewMemory(t *testing.T) {
	for _, k := range goods() {
		one, _ := Parse(k.text)
		other, _ := Parse(k.text)
		for i := range one[:cap(one)] {
			one[:cap(one)][i] = Step{-1, -1}
		}
		third, _ := Parse(k.text)
		if !slices.Equal(other, k.p) || !slices.Equal(third, k.p) {
			t.Errorf("P10.1: Parse(%q): %v and %v, when another was changed", k.text, other, third)
		}
	}
}

// lots is a row of numbers by lot.
type lots uint64

func (l *lots) below(n int64) int64 {
	*l = *l*6364136223846793005 + 1442695040888963407
	return int64(*l>>33) % n
}

// prog is a Good one by lot.
func (l *lots) prog() Prog {
	var p Prog
	for range 1 + l.below(api.MaxSteps) {
		// By digits, so that numbers of all lengths come.
		ticks := 1 + l.below(int64(math.Pow10(int(l.below(10)))))
		if l.below(9) == 0 {
			ticks = most - l.below(3)
		}
		sem := 0
		if l.below(2) == 0 {
			sem = 1 + int(l.below(api.MaxSems))
		}
		p = append(p, Step{sem, ticks})
	}
	return p
}

// plainText writes one in another way.
func plainText(p Prog) string {
	s := ""
	for _, step := range p {
		s += fmt.Sprintf("+%d@%d", step.N, step.Sem)
	}
	return strings.ReplaceAll(s[1:], "@0", "")
}

// holdsAll holds every call about a Good one.
func holdsAll(t *testing.T, p Prog) {
	t.Helper()
	total, holding, greatest := int64(0), []int{}, 0
	for _, s := range p {
		total += s.N
		greatest = max(greatest, s.Sem)
		if s.Sem > 0 {
			holding = append(holding, s.Sem)
		}
	}
	text := plainText(p)
	if !Good(p) || Total(p) != total || Holds(p) != len(holding) || Text(p) != text {
		t.Fatalf("P10.1: of %s: %v, %d, %d, %s", text, Good(p), Total(p), Holds(p), Text(p))
	}
	if back, ok := Parse(text); !ok || !slices.Equal(back, p) {
		t.Fatalf("P10.1: Parse(%q): %v, %v", text, back, ok)
	}
	for n := range api.MaxSems + 2 {
		if Fits(p, make([]int64, n)) != (greatest <= n) {
			t.Fatalf("P10.1: Fits of %s, %d sems: %v", text, n, greatest > n)
		}
	}
}

func TestByLot(t *testing.T) {
	lot := lots(10)
	const alphabet = "0123456789@+@+ x"
	for range 20000 {
		p := lot.prog()
		holdsAll(t, p)
		// And one that is wrong by one byte, mostly.
		b := []byte(Text(p))
		b[lot.below(int64(len(b)))] = alphabet[lot.below(int64(len(alphabet)))]
		parsesLikePlain(t, string(b))
	}
}

func TestWrongByLot(t *testing.T) {
	lot := lots(101)
	for range 5000 {
		p := lot.prog()
		at := int(lot.below(int64(len(p))))
		if lot.below(2) == 0 {
			p[at].Sem = noSems[lot.below(int64(len(noSems)))]
		} else {
			p[at].N = noTicks[lot.below(int64(len(noTicks)))]
		}
		if got := asked(p, make([]int64, api.MaxSems)); got != `false 0 0 "" false` {
			t.Fatalf("P10.1: of %v: %s", p, got)
		}
	}
}
