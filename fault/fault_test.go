package fault_test

import (
	"errors"
	"math"
	"slices"
	"strconv"
	"sync"
	"testing"

	"kenning/api"
	"kenning/fault"
)

// outer is an error of another package, which wraps an error or nil.
type outer struct{ err error }

func (o outer) Error() string { return "outer" }
func (o outer) Unwrap() error { return o.err }

// text is no error itself: go vet rejects an error that declares such an Unwrap.
type text struct{}

func (text) Unwrap() string { return "no error" }

// odd has a method Unwrap that returns no error, so its chain is itself.
type odd struct{ text }

func (odd) Error() string { return "odd" }

// list cannot be compared: == of two of them panics.
type list []error

func (l list) Error() string { return "list" }
func (l list) Unwrap() error { return l[0] }

// broken panics where its chain goes on.
type broken struct{}

func (broken) Error() string { return "broken" }
func (broken) Unwrap() error { panic("broken") }

var offsets = []int{math.MinInt, -2, -1, 0, 1, 12, math.MaxInt}

var codes = []api.Errno{api.ErrNil, api.ErrInverted, api.ErrShort, api.ErrSum, api.ErrOther, 18, -1, math.MinInt, math.MaxInt}

// sample is an error with what the document says of it.
type sample struct {
	name  string
	err   error
	code  api.Errno
	chain []api.Errno // the codes in its chain
	fault bool        // whether its chain has an api.Fault
	at    int
}

func samples() []sample {
	var missing *api.Fault
	fine := api.Fault{Code: api.OK, At: 3}
	sum := api.Fault{Code: api.ErrSum, At: 7}
	return []sample{
		{"nil", nil, api.OK, nil, false, -1},
		{"OK", api.OK, api.OK, []api.Errno{api.OK}, false, -1},
		{"code", api.ErrNil, api.ErrNil, []api.Errno{api.ErrNil}, false, -1},
		{"unknown code", api.Errno(-4), -4, []api.Errno{-4}, false, -1},
		{"fault", sum, api.ErrSum, []api.Errno{api.ErrSum}, true, 7},
		{"fault with OK", fine, api.OK, []api.Errno{api.OK}, true, 3},
		{"zero fault", api.Fault{}, api.OK, []api.Errno{api.OK}, true, 0},
		{"fault at -1", api.Fault{Code: api.ErrRange, At: -1}, api.ErrRange, []api.Errno{api.ErrRange}, true, -1},
		{"pointer to a fault", &sum, api.ErrSum, []api.Errno{api.ErrSum}, false, -1},
		{"no code", errors.New("plain"), api.ErrOther, nil, false, -1},
		{"end of a chain", outer{nil}, api.ErrOther, nil, false, -1},
		{"other Unwrap", odd{}, api.ErrOther, nil, false, -1},
		{"wrapped no code", fault.Wrap("x", outer{errors.New("plain")}), api.ErrOther, nil, false, -1},
		{"wrapped code", outer{outer{api.ErrHole}}, api.ErrHole, []api.Errno{api.ErrHole}, false, -1},
		{"wrapped OK", fault.Wrap("x", api.OK), api.OK, []api.Errno{api.OK}, false, -1},
		{"wrapped fault", outer{sum}, api.ErrSum, []api.Errno{api.ErrSum}, true, 7},
		{"twice wrapped fault", fault.Wrap("y", fault.Wrap("x", sum)), api.ErrSum, []api.Errno{api.ErrSum}, true, 7},
		{"wrapped fault with OK", fault.Wrap("x", fine), api.OK, []api.Errno{api.OK}, true, 3},
		{"incomparable", fault.Wrap("x", list{sum}), api.ErrSum, []api.Errno{api.ErrSum}, true, 7},
		{"panic", fault.Wrap("x", broken{}), api.ErrOther, nil, false, -1},
		{"nil pointer", missing, api.ErrOther, nil, false, -1},
	}
}

// same compares two errors, of which both may be nil, and which may be incomparable.
func same(a, b error) bool {
	if a == nil || b == nil {
		return a == nil && b == nil
	}
	if l, ok := a.(list); ok {
		m, ok := b.(list)
		return ok && &l[0] == &m[0]
	}
	return a == b
}

func TestP1_1New(t *testing.T) {
	for _, at := range offsets {
		if err := fault.New(api.OK, at); err != nil {
			t.Errorf("New(OK, %d) = %v, want nil", at, err)
		}
		for _, code := range codes {
			err := fault.New(code, at)
			if f, ok := err.(api.Fault); !ok || f != (api.Fault{Code: code, At: at}) {
				t.Errorf("New(%d, %d) = %#v", code, at, err)
			}
			if fault.Code(err) != code || fault.At(err) != at {
				t.Errorf("New(%d, %d) has the code %d and the offset %d", code, at, fault.Code(err), fault.At(err))
			}
		}
	}
}

func TestP1_2Code(t *testing.T) {
	for _, s := range samples() {
		if got := fault.Code(s.err); got != s.code {
			t.Errorf("%s: Code = %d, want %d", s.name, got, s.code)
		}
	}
}

func TestP1_2At(t *testing.T) {
	for _, s := range samples() {
		if got := fault.At(s.err); got != s.at {
			t.Errorf("%s: At = %d, want %d", s.name, got, s.at)
		}
	}
}

func TestP1_2Has(t *testing.T) {
	asked := append([]api.Errno{api.OK, api.ErrHole, api.ErrRange, -4}, codes...)
	for _, s := range samples() {
		for _, code := range asked {
			want := slices.Contains(s.chain, code)
			if got := fault.Has(s.err, code); got != want {
				t.Errorf("%s: Has(%d) = %t, want %t", s.name, code, got, want)
			}
		}
		if fault.Has(s.err) {
			t.Errorf("%s: Has without codes", s.name)
		}
		if want := len(s.chain) > 0; fault.Has(s.err, asked...) != want {
			t.Errorf("%s: Has of all codes is not %t", s.name, want)
		}
	}
}

func TestP1_2HasFindsEachPlace(t *testing.T) {
	err := fault.New(api.ErrSum, 7)
	for _, l := range [][]api.Errno{
		{api.ErrSum, api.ErrNil, api.ErrHole},
		{api.ErrNil, api.ErrSum, api.ErrHole},
		{api.ErrNil, api.ErrHole, api.ErrSum},
	} {
		if !fault.Has(err, l...) {
			t.Errorf("Has(%v) = false", l)
		}
	}
	if fault.Has(err, api.ErrNil, api.ErrHole, api.OK) {
		t.Error("Has finds a code that is not in the chain")
	}
}

func TestP1_3Shift(t *testing.T) {
	for _, s := range samples() {
		for _, by := range []int{-9, -1, 0, 1, 1000} {
			got := fault.Shift(s.err, by)
			if !s.fault {
				if !same(got, s.err) {
					t.Errorf("%s: Shift(%d) = %#v, want the error itself", s.name, by, got)
				}
				continue
			}
			if f, ok := got.(api.Fault); !ok || f != (api.Fault{Code: s.code, At: s.at + by}) {
				t.Errorf("%s: Shift(%d) = %#v", s.name, by, got)
			}
		}
	}
}

func TestP1_3ShiftToTheEnds(t *testing.T) {
	for _, c := range []struct{ at, by int }{
		{math.MaxInt, math.MinInt}, {math.MinInt, math.MaxInt}, {math.MaxInt, 0}, {math.MinInt, 0},
		{0, math.MaxInt}, {0, math.MinInt}, {-1, math.MaxInt}, {-1, math.MinInt + 1}, {1, -2}, {-1, 0},
	} {
		got := fault.Shift(fault.New(api.ErrShort, c.at), c.by)
		if f, ok := got.(api.Fault); !ok || f != (api.Fault{Code: api.ErrShort, At: c.at + c.by}) {
			t.Errorf("Shift(%d, %d) = %#v", c.at, c.by, got)
		}
	}
}

func TestP1_4Wrap(t *testing.T) {
	for _, s := range samples() {
		for _, name := range []string{"frame", "", "a: b", "\xff"} {
			got := fault.Wrap(name, s.err)
			if s.err == nil {
				if got != nil {
					t.Errorf("Wrap(%q, nil) = %#v", name, got)
				}
				continue
			}
			if got == nil {
				t.Fatalf("%s: Wrap(%q) = nil", s.name, name)
			}
			if next := errors.Unwrap(got); !same(next, s.err) {
				t.Errorf("%s: Unwrap = %#v", s.name, next)
			}
			if fault.Code(got) != s.code || fault.At(got) != s.at {
				t.Errorf("%s: wrapped, it has the code %d and the offset %d", s.name, fault.Code(got), fault.At(got))
			}
		}
	}
}

func TestP1_4Text(t *testing.T) {
	for _, c := range []struct {
		err  error
		want string
	}{
		{fault.Wrap("frame", fault.New(api.ErrSum, 7)), "frame: error 14"},
		{fault.Wrap("stream", fault.Wrap("frame", api.ErrShort)), "stream: frame: error 5"},
		{fault.Wrap("", errors.New("")), ": "},
		{fault.Wrap("a: b", outer{nil}), "a: b: outer"},
		{fault.Wrap("x", api.OK), "x: error 0"},
		{fault.Wrap("\xff", api.Errno(-1)), "\xff: error"},
	} {
		if got := c.err.Error(); got != c.want {
			t.Errorf("text %q, want %q", got, c.want)
		}
	}
}

func TestP1_4FindsTheSame(t *testing.T) {
	plain := errors.New("plain")
	if err := fault.Wrap("y", fault.Wrap("x", plain)); !errors.Is(err, plain) || errors.Is(err, api.ErrOther) {
		t.Error("errors.Is finds something else in the wrapped error")
	}
	err := fault.Wrap("y", fault.Wrap("x", fault.New(api.ErrLimit, 4)))
	if !errors.Is(err, api.ErrLimit) || !errors.Is(err, api.Fault{Code: api.ErrLimit, At: 4}) || errors.Is(err, api.ErrSum) {
		t.Error("errors.Is finds something else in the wrapped fault")
	}
	var f api.Fault
	if !errors.As(err, &f) || f != (api.Fault{Code: api.ErrLimit, At: 4}) {
		t.Errorf("errors.As finds %#v", f)
	}
	var o outer
	if errors.As(err, &o) || !errors.As(fault.Wrap("x", outer{plain}), &o) || !same(o.err, plain) {
		t.Errorf("errors.As finds %#v", o)
	}
	if once := fault.Wrap("x", list{plain}); !errors.Is(fault.Wrap("y", once), once) {
		t.Error("errors.Is does not find a wrapped incomparable error")
	}
}

func TestP1_5Least(t *testing.T) {
	plain, code := errors.New("plain"), error(api.ErrNil)
	nine, four := fault.New(api.ErrSum, 9), fault.New(api.ErrShort, 4)
	wrapped := fault.Wrap("b", fault.New(api.ErrLimit, 4))
	none, fine := fault.New(api.ErrHole, -1), error(api.Fault{Code: api.OK, At: 2})
	low, high := fault.New(api.ErrHole, math.MinInt), fault.New(api.ErrHole, math.MaxInt)
	var missing *api.Fault
	for i, c := range []struct {
		errs []error
		want error
	}{
		{nil, nil},
		{[]error{nil}, nil},
		{[]error{nil, nil, nil}, nil},
		{[]error{plain}, plain},
		{[]error{nil, code, plain}, code},
		{[]error{plain, code, nil}, plain},
		{[]error{plain, nine}, nine},
		{[]error{nil, plain, nine, wrapped, four}, wrapped},
		{[]error{nil, plain, nine, four, wrapped}, four},
		{[]error{four, nine}, four},
		{[]error{four, fine, plain}, fine},
		{[]error{fine, none, four}, none},
		{[]error{none, plain}, none},
		{[]error{plain, high}, high},
		{[]error{high, nine, nil}, nine},
		{[]error{none, low, high}, low},
		{[]error{low, none}, low},
		{[]error{outer{broken{}}, missing, plain}, outer{broken{}}},
		{[]error{missing, plain}, missing},
		{[]error{list{plain}, list{nine}, high}, list{nine}},
	} {
		before := slices.Clone(c.errs)
		got := fault.Least(c.errs...)
		if l, ok := c.want.(list); ok {
			if m, ok := got.(list); !ok || !same(m[0], l[0]) {
				t.Errorf("case %d: Least = %#v, want %#v", i, got, c.want)
			}
			continue
		}
		if !same(got, c.want) {
			t.Errorf("case %d: Least = %#v, want %#v", i, got, c.want)
		}
		if !slices.EqualFunc(before, c.errs, same) {
			t.Errorf("case %d: Least changed its arguments", i)
		}
	}
	if fault.Least() != nil {
		t.Error("Least() is not nil")
	}
}

// P1: a long chain ends too.
func TestP1LongChain(t *testing.T) {
	err, levels := fault.New(api.ErrSum, 7), 1<<12
	for range levels {
		err = fault.Wrap("x", err)
	}
	if fault.Code(err) != api.ErrSum || fault.At(err) != 7 || !fault.Has(err, api.ErrSum) {
		t.Error("the code is not found at the end of a long chain")
	}
	if got, want := len(err.Error()), levels*len("x: ")+len("error 14"); got != want {
		t.Errorf("the text has %d bytes, want %d", got, want)
	}
}

// P2: errors made from one error neither change it nor each other.
func TestP2Independent(t *testing.T) {
	err := fault.New(api.ErrSum, 7)
	a, b := fault.Wrap("a", err), fault.Wrap("b", err)
	c := fault.Shift(a, 5)
	if a.Error() != "a: error 14" || b.Error() != "b: error 14" {
		t.Errorf("texts %q and %q", a, b)
	}
	if fault.At(err) != 7 || fault.At(a) != 7 || fault.At(b) != 7 || fault.At(c) != 12 {
		t.Error("shifting one error changed another one")
	}
}

// Rule 6: the functions may be called concurrently.
func TestConcurrent(t *testing.T) {
	shared := fault.Wrap("shared", fault.New(api.ErrSum, 7))
	var wait sync.WaitGroup
	for i := range 8 {
		wait.Go(func() {
			err := fault.Wrap(strconv.Itoa(i), fault.Shift(shared, i))
			if fault.At(err) != 7+i || fault.Least(err, shared) == nil || !fault.Has(shared, api.ErrSum) {
				t.Errorf("goroutine %d: %v", i, err)
			}
		})
	}
	wait.Wait()
}
