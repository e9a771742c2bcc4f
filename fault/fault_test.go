package fault

import (
	"errors"
	"fmt"
	"math"
	"slices"
	"strconv"
	"strings"
	"testing"

	"beadle/api"
)

var errOther = errors.New("other")

// shell is an error of another kind, with one in it, that cannot be compared.
type shell struct{ within []error }

func (s shell) Error() string { return "shell of " + s.within[0].Error() }
func (s shell) Unwrap() error { return s.within[0] }

// alike is no Fault and no Errno, but says to errors.As that it is.
type alike struct{ e api.Errno }

func (a alike) Error() string { return "alike" }
func (a alike) As(target any) bool {
	if e, ok := target.(*api.Errno); ok {
		*e = a.e
		return true
	}
	return false
}

// idle claims to be whatever it is asked for, and hands out nothing.
type idle struct{}

func (idle) Error() string { return "idle" }
func (idle) As(any) bool   { return true }

// broken panics whatever it is asked.
type broken struct{}

func (broken) Error() string { panic("Error") }
func (broken) Unwrap() error { panic("Unwrap") }

// want is what all the calls must tell of one error.
type want struct {
	name string
	err  error
	text string
	code api.Errno
	ops  []string
	ids  []int
}

func ordinary() []want {
	lock := New("lock", 3, api.EBUSY)
	twice := Wrap("lock", 4, lock)
	return []want{
		{"one Fault", lock, "lock 3: error 5", api.EBUSY, []string{"lock"}, []int{3}},
		{"a Fault in a Fault", Wrap("open", 0, lock), "open 0: lock 3: error 5", api.EBUSY, []string{"open", "lock"}, []int{0, 3}},
		{"a name twice", Wrap("open", -7, twice), "open -7: lock 4: lock 3: error 5", api.EBUSY, []string{"open", "lock", "lock"}, []int{-7, 4, 3}},
		{"another kind round it", fmt.Errorf("more: %w", lock), "more: lock 3: error 5", api.EBUSY, []string{"lock"}, []int{3}},
		{"another kind between", Wrap("open", 1, fmt.Errorf("more: %w", lock)), "open 1: more: lock 3: error 5", api.EBUSY, []string{"open", "lock"}, []int{1, 3}},
		{"another kind below", Wrap("open", 1, fmt.Errorf("more: %w", api.EFORM)), "open 1: more: error 12", api.EFORM, []string{"open"}, []int{1}},
		{"another kind everywhere", fmt.Errorf("a: %w", fmt.Errorf("b: %w", Wrap("x", 9, shell{[]error{Wrap("y", 8, fmt.Errorf("c: %w", api.EDEAD))}}))), "a: b: x 9: shell of y 8: c: error 8", api.EDEAD, []string{"x", "y"}, []int{9, 8}},
		{"a number alone", api.EFULL, "error 3", api.EFULL, nil, nil},
		{"a number wrapped by another kind", fmt.Errorf("more: %w", api.EFULL), "more: error 3", api.EFULL, nil, nil},
		{"no number", errOther, "other", api.EARG, nil, nil},
		{"no number in a Fault", Wrap("a", 1, errOther), "a 1: other", api.EARG, []string{"a"}, []int{1}},
		{"no number in two", Wrap("b", 2, fmt.Errorf("more: %w", Wrap("a", 1, errOther))), "b 2: more: a 1: other", api.EARG, []string{"b", "a"}, []int{2, 1}},
	}
}

func edges() []want {
	return []want{
		{"OK alone", api.OK, "error 0", api.OK, nil, nil},
		{"OK in a Fault", Wrap("a", 1, api.OK), "a 1: error 0", api.OK, []string{"a"}, []int{1}},
		{"OK below another kind", Wrap("a", 1, fmt.Errorf("more: %w", api.OK)), "a 1: more: error 0", api.OK, []string{"a"}, []int{1}},
		{"a nil Err", &Fault{Op: "x", ID: 2}, "x 2: ok", api.EARG, []string{"x"}, []int{2}},
		{"a nil Err within", Wrap("y", 3, &Fault{Op: "x", ID: 2}), "y 3: x 2: ok", api.EARG, []string{"y", "x"}, []int{3, 2}},
		{"nothing set", &Fault{}, " 0: ok", api.EARG, []string{""}, []int{0}},
		{"no Op", Wrap("", 0, api.EID), " 0: error 2", api.EID, []string{""}, []int{0}},
		{"an Op of any bytes", New("a 1: b\n\x00\xff%w", 5, api.ENONE), "a 1: b\n\x00\xff%w 5: error 4", api.ENONE, []string{"a 1: b\n\x00\xff%w"}, []int{5}},
		{"the least ID", New("x", math.MinInt, api.EARG), "x " + strconv.Itoa(math.MinInt) + ": error 1", api.EARG, []string{"x"}, []int{math.MinInt}},
		{"the greatest ID", New("x", math.MaxInt, api.EBACK), "x " + strconv.Itoa(math.MaxInt) + ": error 13", api.EBACK, []string{"x"}, []int{math.MaxInt}},
		{"a number that is none of api's", New("x", 1, api.Errno(99)), "x 1: error 99", api.Errno(99), []string{"x"}, []int{1}},
		{"a number below nought", New("x", 1, api.Errno(-1)), "x 1: error -1", api.Errno(-1), []string{"x"}, []int{1}},
		{"what answers errors.As by itself", Wrap("x", 1, alike{api.EOVER}), "x 1: alike", api.EOVER, []string{"x"}, []int{1}},
		{"a nil *Fault", (*Fault)(nil), "ok", api.EARG, nil, nil},
		{"a nil *Fault in a Fault", Wrap("x", 1, (*Fault)(nil)), "x 1: ok", api.EARG, []string{"x"}, []int{1}},
		{"a claim with nothing behind it", Wrap("x", 1, idle{}), "x 1: idle", api.OK, []string{"x"}, []int{1}},
		{"one that panics, in a Fault", Wrap("x", 1, broken{}), "x 1: ", api.EARG, []string{"x"}, []int{1}},
		{"a nil pointer to a number", Wrap("x", 1, (*api.Errno)(nil)), "x 1: ", api.EARG, []string{"x"}, []int{1}},
	}
}

func TestWhatIsTold(t *testing.T) {
	for _, c := range append(ordinary(), edges()...) {
		t.Run(c.name, func(t *testing.T) {
			if got := c.err.Error(); got != c.text {
				t.Errorf("P2.1: Error: %q; want %q", got, c.text)
			}
			if got := Code(c.err); got != c.code {
				t.Errorf("P2.1: Code: %d; want %d", got, c.code)
			}
			if got := Ops(c.err); !slices.Equal(got, c.ops) {
				t.Errorf("P2.1: Ops: %q; want %q", got, c.ops)
			}
			if got := Deep(c.err); got != len(c.ops) {
				t.Errorf("P2.1: Deep: %d; want %d", got, len(c.ops))
			}
			checkWho(t, c)
		})
	}
}

// checkWho asks for every name that is there, and for some that may not be.
func checkWho(t *testing.T, c want) {
	t.Helper()
	for _, op := range append([]string{"", "lock", "Lock", "loc", "lock ", "more", "other"}, c.ops...) {
		id, ok := 0, false
		if at := slices.Index(c.ops, op); at >= 0 {
			id, ok = c.ids[at], true
		}
		if gotID, gotOK := Who(c.err, op); gotID != id || gotOK != ok {
			t.Errorf("P2.1: Who(%q): %d, %v; want %d, %v", op, gotID, gotOK, id, ok)
		}
	}
}

func TestOfNil(t *testing.T) {
	if e := New("lock", 3, api.OK); e != nil {
		t.Errorf("P2.1: New of OK: %v", e)
	}
	if e := Wrap("lock", 3, nil); e != nil {
		t.Errorf("P2.1: Wrap of nil: %v", e)
	}
	if e := Code(nil); e != api.OK {
		t.Errorf("P2.1: Code of nil: %d", e)
	}
	if ops := Ops(nil); len(ops) != 0 {
		t.Errorf("P2.1: Ops of nil: %q", ops)
	}
	if n := Deep(nil); n != 0 {
		t.Errorf("P2.1: Deep of nil: %d", n)
	}
	for _, op := range []string{"", "lock"} {
		if id, ok := Who(nil, op); id != 0 || ok {
			t.Errorf("P2.1: Who(nil, %q): %d, %v", op, id, ok)
		}
	}
}

func TestOfOneThatPanics(t *testing.T) {
	for _, err := range []error{broken{}, fmt.Errorf("more: %w", error(shell{}))} {
		if e := Code(err); e != api.EARG {
			t.Errorf("R1: Code: %d", e)
		}
		if ops, n := Ops(err), Deep(err); len(ops) != 0 || n != 0 {
			t.Errorf("R1: Ops, Deep: %q, %d", ops, n)
		}
		if id, ok := Who(err, "lock"); id != 0 || ok {
			t.Errorf("R1: Who: %d, %v", id, ok)
		}
	}
}

func TestNewAndWrapMakeFaults(t *testing.T) {
	for e := api.EARG; e <= api.EBACK; e++ {
		f, ok := New("lock", 3, e).(*Fault)
		if !ok || *f != (Fault{"lock", 3, e}) {
			t.Errorf("P2.1: New of %d: %v", e, f)
		}
	}
	lock := New("lock", 3, api.EBUSY)
	for _, err := range []error{errOther, api.EID, api.OK, lock, fmt.Errorf("more: %w", lock)} {
		f, ok := Wrap("open", -4, err).(*Fault)
		if !ok || *f != (Fault{"open", -4, err}) {
			t.Errorf("P2.1: Wrap of %v: %v", err, f)
		}
	}
	if New("lock", 3, api.EBUSY) == New("lock", 3, api.EBUSY) {
		t.Errorf("R4: New answers one Fault twice")
	}
	if lock.Error() != "lock 3: error 5" {
		t.Errorf("R4: Wrap has changed what it was given: %v", lock)
	}
}

func TestUnwrap(t *testing.T) {
	lock := New("lock", 3, api.EBUSY)
	between := fmt.Errorf("more: %w", lock)
	for _, within := range []error{api.EBUSY, errOther, lock, between, nil} {
		if got := (&Fault{"open", 1, within}).Unwrap(); got != within {
			t.Errorf("P2.1: Unwrap: %v; want %v", got, within)
		}
	}
	if got := (*Fault)(nil).Unwrap(); got != nil {
		t.Errorf("R1: Unwrap of a nil *Fault: %v", got)
	}
}

func TestErrorsIsAndAs(t *testing.T) {
	lock := New("lock", 3, api.EBUSY)
	if !errors.Is(lock, api.EBUSY) {
		t.Errorf("P2.1: errors.Is does not find the number in one Fault")
	}
	deep := Wrap("open", 1, fmt.Errorf("more: %w", Wrap("try", 2, lock)))
	if !errors.Is(deep, api.EBUSY) || !errors.Is(deep, lock) || errors.Is(deep, api.EARG) || errors.Is(deep, errOther) {
		t.Errorf("P2.1: errors.Is of %v", deep)
	}
	if other := Wrap("a", 1, errOther); !errors.Is(other, errOther) || errors.Is(other, api.EARG) {
		t.Errorf("P2.1: errors.Is of %v", other)
	}
	var e api.Errno
	if !errors.As(deep, &e) || e != api.EBUSY {
		t.Errorf("P2.1: errors.As: %d", e)
	}
	var f *Fault
	if !errors.As(fmt.Errorf("out: %w", deep), &f) || error(f) != deep {
		t.Errorf("P2.1: errors.As: %v", f)
	}
}

func TestOpsAreNewMemory(t *testing.T) {
	deep := Wrap("open", 1, Wrap("try", 2, New("lock", 3, api.EBUSY)))
	first := Ops(deep)
	for i := range first[:cap(first)] {
		first[:cap(first)][i] = "spoilt"
	}
	if got := Ops(deep); !slices.Equal(got, []string{"open", "try", "lock"}) {
		t.Errorf("R4: Ops: %q", got)
	}
	if deep.Error() != "open 1: try 2: lock 3: error 5" {
		t.Errorf("R4: Error: %q", deep.Error())
	}
}

// TestNestedDeep: as many within one another as the section Limits allows.
func TestNestedDeep(t *testing.T) {
	const most = 1 << 16
	err := New("lock", 0, api.EGATE)
	for i := 1; i < most; i++ {
		err = Wrap("op", i, err)
	}
	text := err.Error()
	if !strings.HasPrefix(text, "op 65535: op 65534: ") || !strings.HasSuffix(text, "op 2: op 1: lock 0: error 9") || strings.Count(text, ": ") != most {
		t.Errorf("P2.1: Error: %d bytes", len(text))
	}
	if Code(err) != api.EGATE || Deep(err) != most {
		t.Errorf("P2.1: Code, Deep: %d, %d", Code(err), Deep(err))
	}
	if ops := Ops(err); len(ops) != most || ops[0] != "op" || ops[most-1] != "lock" {
		t.Errorf("P2.1: Ops: %d", len(ops))
	}
	if id, ok := Who(err, "op"); id != most-1 || !ok {
		t.Errorf("P2.1: Who: %d, %v", id, ok)
	}
	if id, ok := Who(err, "lock"); id != 0 || !ok {
		t.Errorf("P2.1: Who: %d, %v", id, ok)
	}
}
