package ranges_test

import (
	"math"
	"math/big"
	"math/rand"
	"regexp"
	"slices"
	"strings"
	"sync"
	"testing"

	"kenning/api"
	"kenning/fault"
	"kenning/ranges"
)

const greatest = math.MaxUint64

// The texts of the greatest number and of the ones behind it.
const (
	greatestText = "18446744073709551615"
	tooGreat     = "18446744073709551616"
	farTooGreat  = "100000000000000000000"
)

func iv(lo, hi uint64) api.Interval { return api.Interval{Lo: lo, Hi: hi} }

// edge is how many cells of one number are at each end of all numbers.
const edge = 4

// count is how many cells there are.
const count = 2*edge + 1

// cells divide all numbers, in ascending order. Only the one in the middle has more than one number.
func cells() api.Ranges {
	var l api.Ranges
	for x := range uint64(edge) {
		l = append(l, iv(x, x))
	}
	l = append(l, iv(edge, greatest-edge))
	for x := range uint64(edge) {
		l = append(l, iv(greatest-edge+1+x, greatest-edge+1+x))
	}
	return l
}

// set tells for each cell whether its numbers are in a set.
type set [count]bool

// sets are all sets of whole cells.
func sets() []set {
	var l []set
	for bits := range 1 << count {
		var in set
		for i := range in {
			in[i] = bits>>i&1 == 1
		}
		l = append(l, in)
	}
	return l
}

// list returns the correct list of a set: one interval for each run of cells.
func (in set) list() api.Ranges {
	var l api.Ranges
	for i, cell := range cells() {
		switch {
		case in[i] && i > 0 && in[i-1]:
			l[len(l)-1].Hi = cell.Hi
		case in[i]:
			l = append(l, cell)
		}
	}
	return l
}

// shuffled returns intervals of whole cells whose set is a set, in any order, some of which meet or are equal.
func (in set) shuffled(random *rand.Rand) api.Ranges {
	var l api.Ranges
	all := cells()
	for first := range in {
		for last := first; last < len(in) && in[last]; last++ {
			if first == last || random.Intn(4) == 0 {
				l = append(l, iv(all[first].Lo, all[last].Hi))
			}
		}
	}
	random.Shuffle(len(l), func(i, j int) { l[i], l[j] = l[j], l[i] })
	if len(l) > 0 {
		l = append(l, l[random.Intn(len(l))])
	}
	return l
}

// short calls a function with all lists of at most three intervals with numbers near an end of all numbers.
func short(visit func(l api.Ranges)) {
	for _, least := range []uint64{0, greatest - 4} {
		var all api.Ranges
		for lo := range uint64(5) {
			for hi := range uint64(5) {
				all = append(all, iv(least+lo, least+hi))
			}
		}
		visit(nil)
		for _, a := range all {
			visit(api.Ranges{a})
			for _, b := range all {
				visit(api.Ranges{a, b})
				for _, c := range all {
					visit(api.Ranges{a, b, c})
				}
			}
		}
	}
}

// inverted returns the least index of an interval that is not correct, or -1.
func inverted(l api.Ranges) int {
	return slices.IndexFunc(l, func(s api.Interval) bool { return s.Lo > s.Hi })
}

// wrong returns what the chapter says of the check of a list: api.OK and 0 if it is correct.
func wrong(l api.Ranges) api.Fault {
	for i, s := range l {
		if s.Lo > s.Hi {
			return api.Fault{Code: api.ErrInverted, At: i}
		}
		if i == 0 {
			continue
		}
		gap := new(big.Int).Sub(new(big.Int).SetUint64(s.Lo), new(big.Int).SetUint64(l[i-1].Hi))
		if gap.Cmp(big.NewInt(2)) < 0 {
			return api.Fault{Code: api.ErrOrder, At: i}
		}
	}
	return api.Fault{}
}

// checkFault checks that an error is nil for a zero Fault, and otherwise the Fault itself.
func checkFault(t *testing.T, name string, err error, want api.Fault) {
	t.Helper()
	if want == (api.Fault{}) {
		if err != nil {
			t.Errorf("%q: the error %#v, want none", name, err)
		}
		return
	}
	if got, ok := err.(api.Fault); !ok || got != want {
		t.Errorf("%q: the error %#v, want %#v", name, err, want)
	}
}

var checks = []struct {
	l    api.Ranges
	want api.Fault
}{
	{nil, api.Fault{}},
	{api.Ranges{}, api.Fault{}},
	{api.Ranges{iv(7, 7)}, api.Fault{}},
	{api.Ranges{iv(0, greatest)}, api.Fault{}},
	{api.Ranges{iv(0, 0), iv(greatest, greatest)}, api.Fault{}},
	{api.Ranges{iv(1, 3), iv(5, 9), iv(20, 20)}, api.Fault{}},
	// Exactly one number between them.
	{api.Ranges{iv(0, 0), iv(2, 2), iv(4, 4)}, api.Fault{}},
	{api.Ranges{iv(0, greatest-2), iv(greatest, greatest)}, api.Fault{}},
	{api.Ranges{iv(0, 1<<63-1), iv(1<<63+1, greatest)}, api.Fault{}},
	// Intervals that only touch.
	{api.Ranges{iv(1, 3), iv(4, 9)}, api.Fault{Code: api.ErrOrder, At: 1}},
	{api.Ranges{iv(0, 0), iv(1, 1)}, api.Fault{Code: api.ErrOrder, At: 1}},
	{api.Ranges{iv(0, greatest-1), iv(greatest, greatest)}, api.Fault{Code: api.ErrOrder, At: 1}},
	{api.Ranges{iv(0, 1<<63-1), iv(1<<63, greatest)}, api.Fault{Code: api.ErrOrder, At: 1}},
	// Intervals that meet.
	{api.Ranges{iv(1, 3), iv(3, 9)}, api.Fault{Code: api.ErrOrder, At: 1}},
	{api.Ranges{iv(1, 9), iv(3, 5)}, api.Fault{Code: api.ErrOrder, At: 1}},
	{api.Ranges{iv(3, 5), iv(1, 9)}, api.Fault{Code: api.ErrOrder, At: 1}},
	{api.Ranges{iv(4, 4), iv(4, 4)}, api.Fault{Code: api.ErrOrder, At: 1}},
	{api.Ranges{iv(0, greatest), iv(0, greatest)}, api.Fault{Code: api.ErrOrder, At: 1}},
	{api.Ranges{iv(0, greatest), iv(greatest, greatest)}, api.Fault{Code: api.ErrOrder, At: 1}},
	{api.Ranges{iv(greatest, greatest), iv(greatest, greatest)}, api.Fault{Code: api.ErrOrder, At: 1}},
	// Descending order, also with an interval at the end of all numbers.
	{api.Ranges{iv(5, 9), iv(1, 2)}, api.Fault{Code: api.ErrOrder, At: 1}},
	{api.Ranges{iv(5, 9), iv(1, 4)}, api.Fault{Code: api.ErrOrder, At: 1}},
	{api.Ranges{iv(greatest, greatest), iv(0, 0)}, api.Fault{Code: api.ErrOrder, At: 1}},
	{api.Ranges{iv(greatest, greatest), iv(1, 3)}, api.Fault{Code: api.ErrOrder, At: 1}},
	// An interval behind two others that is only behind the first one.
	{api.Ranges{iv(1, 1), iv(20, 29), iv(10, 10)}, api.Fault{Code: api.ErrOrder, At: 2}},
	// Intervals that are not correct.
	{api.Ranges{iv(1, 0)}, api.Fault{Code: api.ErrInverted, At: 0}},
	{api.Ranges{iv(greatest, 0)}, api.Fault{Code: api.ErrInverted, At: 0}},
	{api.Ranges{iv(greatest, greatest-1)}, api.Fault{Code: api.ErrInverted, At: 0}},
	{api.Ranges{iv(1, 3), iv(9, 5)}, api.Fault{Code: api.ErrInverted, At: 1}},
	{api.Ranges{iv(1, 3), iv(5, 9), iv(12, 11), iv(14, 13)}, api.Fault{Code: api.ErrInverted, At: 2}},
	// Not correct and also out of order.
	{api.Ranges{iv(5, 9), iv(4, 3)}, api.Fault{Code: api.ErrInverted, At: 1}},
	{api.Ranges{iv(5, 9), iv(10, 6)}, api.Fault{Code: api.ErrInverted, At: 1}},
	{api.Ranges{iv(5, 9), iv(7, 6)}, api.Fault{Code: api.ErrInverted, At: 1}},
	// The least index decides, not the code.
	{api.Ranges{iv(1, 3), iv(4, 5), iv(9, 8)}, api.Fault{Code: api.ErrOrder, At: 1}},
	{api.Ranges{iv(5, 9), iv(1, 2), iv(9, 8)}, api.Fault{Code: api.ErrOrder, At: 1}},
	{api.Ranges{iv(9, 8), iv(1, 2), iv(2, 3)}, api.Fault{Code: api.ErrInverted, At: 0}},
	{api.Ranges{iv(1, 3), iv(5, 6), iv(5, 6), iv(5, 6)}, api.Fault{Code: api.ErrOrder, At: 2}},
}

func TestP4_1Check(t *testing.T) {
	for _, c := range checks {
		checkFault(t, ranges.Text(c.l), ranges.Check(c.l), c.want)
		if got := wrong(c.l); got != c.want {
			t.Errorf("the test itself finds %v for %v, want %v", got, c.l, c.want)
		}
	}
}

func TestP4_1CheckOfShortLists(t *testing.T) {
	short(func(l api.Ranges) { checkFault(t, ranges.Text(l), ranges.Check(l), wrong(l)) })
}

func TestP4_1CheckOfAllSets(t *testing.T) {
	for _, in := range sets() {
		if l := in.list(); ranges.Check(l) != nil {
			t.Errorf("Check(%v) = %v", l, ranges.Check(l))
		}
	}
}

func TestP4_2Normal(t *testing.T) {
	for _, c := range []struct{ l, want api.Ranges }{
		{nil, nil},
		{api.Ranges{}, nil},
		{api.Ranges{iv(7, 7)}, api.Ranges{iv(7, 7)}},
		{api.Ranges{iv(0, greatest)}, api.Ranges{iv(0, greatest)}},
		{api.Ranges{iv(5, 9), iv(1, 2), iv(3, 3)}, api.Ranges{iv(1, 3), iv(5, 9)}},
		{api.Ranges{iv(9, 9), iv(5, 5), iv(7, 7), iv(1, 1)}, api.Ranges{iv(1, 1), iv(5, 5), iv(7, 7), iv(9, 9)}},
		// Touching and meeting.
		{api.Ranges{iv(4, 9), iv(1, 3)}, api.Ranges{iv(1, 9)}},
		{api.Ranges{iv(3, 9), iv(1, 3)}, api.Ranges{iv(1, 9)}},
		{api.Ranges{iv(1, 5), iv(3, 9)}, api.Ranges{iv(1, 9)}},
		{api.Ranges{iv(5, 5), iv(4, 4), iv(3, 3), iv(2, 2)}, api.Ranges{iv(2, 5)}},
		// Exactly one number between them.
		{api.Ranges{iv(5, 9), iv(1, 3)}, api.Ranges{iv(1, 3), iv(5, 9)}},
		// Equal ones, and one within another.
		{api.Ranges{iv(4, 6), iv(4, 6), iv(4, 6)}, api.Ranges{iv(4, 6)}},
		{api.Ranges{iv(1, 9), iv(3, 5)}, api.Ranges{iv(1, 9)}},
		{api.Ranges{iv(3, 5), iv(1, 9)}, api.Ranges{iv(1, 9)}},
		{api.Ranges{iv(1, 3), iv(1, 9)}, api.Ranges{iv(1, 9)}},
		{api.Ranges{iv(1, 9), iv(1, 3)}, api.Ranges{iv(1, 9)}},
		{api.Ranges{iv(1, 9), iv(5, 9)}, api.Ranges{iv(1, 9)}},
		// The interval behind one within another is measured from the end of the longer one.
		{api.Ranges{iv(1, 9), iv(2, 3), iv(8, 12)}, api.Ranges{iv(1, 12)}},
		{api.Ranges{iv(1, 9), iv(2, 3), iv(5, 6)}, api.Ranges{iv(1, 9)}},
		{api.Ranges{iv(1, 9), iv(2, 3), iv(10, 12)}, api.Ranges{iv(1, 12)}},
		{api.Ranges{iv(1, 9), iv(2, 3), iv(11, 12)}, api.Ranges{iv(1, 9), iv(11, 12)}},
		// Both ends of all numbers.
		{api.Ranges{iv(greatest, greatest), iv(0, 0)}, api.Ranges{iv(0, 0), iv(greatest, greatest)}},
		{api.Ranges{iv(greatest, greatest), iv(0, greatest-1)}, api.Ranges{iv(0, greatest)}},
		{api.Ranges{iv(greatest, greatest), iv(0, greatest-2)}, api.Ranges{iv(0, greatest-2), iv(greatest, greatest)}},
		{api.Ranges{iv(1<<63, greatest), iv(0, 1<<63-1)}, api.Ranges{iv(0, greatest)}},
		{api.Ranges{iv(0, 0), iv(0, greatest), iv(greatest, greatest)}, api.Ranges{iv(0, greatest)}},
		{api.Ranges{iv(greatest, greatest), iv(greatest, greatest)}, api.Ranges{iv(greatest, greatest)}},
		{api.Ranges{iv(0, 0), iv(0, 0)}, api.Ranges{iv(0, 0)}},
	} {
		if got, err := ranges.Normal(c.l); !slices.Equal(got, c.want) || err != nil {
			t.Errorf("Normal(%v) = %v, %v, want %v", c.l, got, err, c.want)
		}
	}
}

func TestP4_2NormalOfWrongIntervals(t *testing.T) {
	for _, c := range []struct {
		l  api.Ranges
		at int
	}{
		{api.Ranges{iv(1, 0)}, 0},
		{api.Ranges{iv(greatest, greatest-1)}, 0},
		{api.Ranges{iv(5, 9), iv(1, 2), iv(4, 3)}, 2},
		{api.Ranges{iv(5, 9), iv(5, 9), iv(9, 0), iv(1, 1)}, 2},
		// The one with the least index is not the one with the least Lo.
		{api.Ranges{iv(1, 2), iv(9, 8), iv(4, 3)}, 1},
		{api.Ranges{iv(9, 8), iv(1, 2), iv(4, 3)}, 0},
	} {
		got, err := ranges.Normal(c.l)
		if len(got) != 0 {
			t.Errorf("Normal(%v) = %v together with an error", c.l, got)
		}
		checkFault(t, ranges.Text(c.l), err, api.Fault{Code: api.ErrInverted, At: c.at})
	}
}

// holds reports whether one of the intervals has a number.
func holds(l api.Ranges, x uint64) bool {
	return slices.ContainsFunc(l, func(s api.Interval) bool { return s.Lo <= x && x <= s.Hi })
}

func TestP4_2NormalOfShortLists(t *testing.T) {
	short(func(l api.Ranges) {
		got, err := ranges.Normal(l)
		if i := inverted(l); i >= 0 {
			checkFault(t, ranges.Text(l), err, api.Fault{Code: api.ErrInverted, At: i})
			if len(got) != 0 {
				t.Errorf("Normal(%v) = %v together with an error", l, got)
			}
			return
		}
		if err != nil || wrong(got) != (api.Fault{}) {
			t.Errorf("Normal(%v) = %v, %v", l, got, err)
		}
		for _, x := range []uint64{0, 1, 2, 3, 4, 5, greatest - 5, greatest - 4, greatest - 3, greatest - 2, greatest - 1, greatest} {
			if holds(got, x) != holds(l, x) {
				t.Errorf("Normal(%v) = %v, which differs at %d", l, got, x)
			}
		}
	})
}

func TestP4_2NormalOfAllSets(t *testing.T) {
	random := rand.New(rand.NewSource(4))
	for range 20 {
		for _, in := range sets() {
			l := in.shuffled(random)
			if got, err := ranges.Normal(l); !slices.Equal(got, in.list()) || err != nil {
				t.Errorf("Normal(%v) = %v, %v, want %v", l, got, err, in.list())
			}
		}
	}
}

// Long lists are sorted in another way than short ones.
func TestP4_2NormalOfLongLists(t *testing.T) {
	random := rand.New(rand.NewSource(5))
	for range 20 {
		var in [2000]bool
		var l, want api.Ranges
		for range 400 {
			lo := random.Intn(len(in) - 4)
			hi := lo + random.Intn(4)
			l = append(l, iv(uint64(lo), uint64(hi)))
			for x := lo; x <= hi; x++ {
				in[x] = true
			}
		}
		for x, ok := range in {
			switch {
			case ok && x > 0 && in[x-1]:
				want[len(want)-1].Hi = uint64(x)
			case ok:
				want = append(want, iv(uint64(x), uint64(x)))
			}
		}
		if got, err := ranges.Normal(l); !slices.Equal(got, want) || err != nil {
			t.Errorf("Normal(%v) = %v, %v, want %v", l, got, err, want)
		}
	}
}

func TestP4_2NormalKeepsItsArgument(t *testing.T) {
	for _, l := range []api.Ranges{
		{iv(5, 9), iv(1, 2), iv(3, 3)}, {iv(1, 3), iv(5, 9)}, {iv(1, 5), iv(3, 9)}, {iv(7, 7)}, {iv(9, 9), iv(2, 1), iv(1, 1)},
	} {
		// The memory behind the list belongs to the caller, too.
		memory := append(slices.Clone(l), iv(77, 78), iv(79, 80))
		argument := memory[:len(l)]
		before := slices.Clone(memory)
		got, _ := ranges.Normal(argument)
		if !slices.Equal(memory, before) {
			t.Errorf("Normal(%v) leaves %v", l, memory)
		}
		want := slices.Clone(got)
		for i := range got {
			got[i] = iv(66, 66)
		}
		_ = append(got, iv(66, 66))
		if !slices.Equal(memory, before) {
			t.Errorf("a change of the result of Normal(%v) makes its argument %v", l, memory)
		}
		again, _ := ranges.Normal(argument)
		clear(memory)
		if !slices.Equal(again, want) {
			t.Errorf("a change of the argument %v makes the result of Normal %v", l, again)
		}
	}
}

func TestP4_3Find(t *testing.T) {
	some := api.Ranges{iv(3, 5), iv(7, 7), iv(10, 19)}
	ends := api.Ranges{iv(0, 0), iv(2, 2), iv(5, greatest-3), iv(greatest, greatest)}
	for _, c := range []struct {
		l    api.Ranges
		x    uint64
		want int
	}{
		{nil, 0, -1}, {nil, 7, -1}, {nil, greatest, -1}, {api.Ranges{}, 0, -1}, {api.Ranges{}, greatest, -1},
		{some, 0, -1}, {some, 2, -1}, {some, 3, 0}, {some, 4, 0}, {some, 5, 0}, {some, 6, -1}, {some, 7, 1}, {some, 8, -1},
		{some, 9, -1}, {some, 10, 2}, {some, 15, 2}, {some, 19, 2}, {some, 20, -1}, {some, greatest, -1},
		{ends, 0, 0}, {ends, 1, -1}, {ends, 2, 1}, {ends, 3, -1}, {ends, 4, -1}, {ends, 5, 2}, {ends, 1 << 63, 2},
		{ends, greatest - 3, 2}, {ends, greatest - 2, -1}, {ends, greatest - 1, -1}, {ends, greatest, 3},
		{api.Ranges{iv(0, greatest)}, 0, 0}, {api.Ranges{iv(0, greatest)}, 1 << 63, 0}, {api.Ranges{iv(0, greatest)}, greatest, 0},
		{api.Ranges{iv(7, 7)}, 6, -1}, {api.Ranges{iv(7, 7)}, 7, 0}, {api.Ranges{iv(7, 7)}, 8, -1},
	} {
		if got := ranges.Find(c.l, c.x); got != c.want {
			t.Errorf("Find(%v, %d) = %d, want %d", c.l, c.x, got, c.want)
		}
		if got := ranges.Has(c.l, c.x); got != (c.want >= 0) {
			t.Errorf("Has(%v, %d) = %t", c.l, c.x, got)
		}
	}
}

func TestP4_3FindInAllSets(t *testing.T) {
	for _, in := range sets() {
		l, index := in.list(), -1
		for i, cell := range cells() {
			if in[i] && (i == 0 || !in[i-1]) {
				index++
			}
			want := -1
			if in[i] {
				want = index
			}
			for _, x := range []uint64{cell.Lo, cell.Lo/2 + cell.Hi/2 + cell.Lo&cell.Hi&1, cell.Hi} {
				if got := ranges.Find(l, x); got != want {
					t.Errorf("Find(%v, %d) = %d, want %d", l, x, got, want)
				}
				if got := ranges.Has(l, x); got != in[i] {
					t.Errorf("Has(%v, %d) = %t", l, x, got)
				}
			}
		}
	}
}

func TestP4_4Same(t *testing.T) {
	different := []api.Ranges{
		nil,
		{iv(0, 0)},
		{iv(1, 3)},
		{iv(1, 4)},
		{iv(2, 3)},
		{iv(3, 1)},
		{iv(1, 3), iv(1, 3)},
		{iv(1, 3), iv(5, 9)},
		{iv(5, 9), iv(1, 3)},
		{iv(1, 3), iv(5, 9), iv(20, 20)},
		{iv(1, 3), iv(5, 8)},
		{iv(1, 3), iv(6, 9)},
		{iv(1, 1), iv(2, 3)},
		{iv(0, greatest)},
		{iv(1, greatest)},
		{iv(0, greatest-1)},
	}
	for i, a := range different {
		for j, b := range different {
			if got := ranges.Same(a, slices.Clone(b)); got != (i == j) {
				t.Errorf("Same(%v, %v) = %t", a, b, got)
			}
		}
	}
	if !ranges.Same(nil, api.Ranges{}) || !ranges.Same(api.Ranges{}, nil) || !ranges.Same(nil, nil) {
		t.Error("two empty lists are not the same")
	}
	// What is behind the length of a list does not count.
	memory := api.Ranges{iv(1, 3), iv(5, 9)}
	if !ranges.Same(memory[:1], api.Ranges{iv(1, 3)}) || !ranges.Same(memory[:0], nil) {
		t.Error("Same reads behind the end of a list")
	}
}

func TestP4_5Text(t *testing.T) {
	for _, c := range []struct {
		l    api.Ranges
		want string
	}{
		{nil, "none"},
		{api.Ranges{}, "none"},
		{api.Ranges{iv(0, 0)}, "0"},
		{api.Ranges{iv(7, 7)}, "7"},
		{api.Ranges{iv(0, 1)}, "0-1"},
		{api.Ranges{iv(10, 105)}, "10-105"},
		{api.Ranges{iv(0, greatest)}, "0-" + greatestText},
		{api.Ranges{iv(greatest, greatest)}, greatestText},
		{api.Ranges{iv(1, 3), iv(5, 9)}, "1-3,5-9"},
		{api.Ranges{iv(1, 1), iv(3, 3), iv(5, 9), iv(20, 20)}, "1,3,5-9,20"},
		// Lists that are not correct have texts, too.
		{api.Ranges{iv(3, 1)}, "3-1"},
		{api.Ranges{iv(greatest, 0)}, greatestText + "-0"},
		{api.Ranges{iv(5, 9), iv(1, 3)}, "5-9,1-3"},
		{api.Ranges{iv(1, 1), iv(1, 1)}, "1,1"},
		{api.Ranges{iv(1, 2), iv(3, 3), iv(2, 1)}, "1-2,3,2-1"},
	} {
		if got := ranges.Text(c.l); got != c.want {
			t.Errorf("Text(%v) = %q, want %q", c.l, got, c.want)
		}
	}
}

func TestP4_5Parse(t *testing.T) {
	for _, c := range []struct {
		s    string
		want api.Ranges
	}{
		{"none", nil},
		{"0", api.Ranges{iv(0, 0)}},
		{"7", api.Ranges{iv(7, 7)}},
		{"0-1", api.Ranges{iv(0, 1)}},
		{"10-105", api.Ranges{iv(10, 105)}},
		{"1-3,5-9", api.Ranges{iv(1, 3), iv(5, 9)}},
		{"1,3,5-9,20", api.Ranges{iv(1, 1), iv(3, 3), iv(5, 9), iv(20, 20)}},
		{greatestText, api.Ranges{iv(greatest, greatest)}},
		{"0-" + greatestText, api.Ranges{iv(0, greatest)}},
		{"0,2-18446744073709551613," + greatestText, api.Ranges{iv(0, 0), iv(2, greatest-2), iv(greatest, greatest)}},
	} {
		got, err := ranges.Parse(c.s)
		if !slices.Equal(got, c.want) || err != nil {
			t.Errorf("Parse(%q) = %v, %v, want %v", c.s, got, err, c.want)
		}
	}
}

func syntax(at int) api.Fault   { return api.Fault{Code: api.ErrSyntax, At: at} }
func outside(at int) api.Fault  { return api.Fault{Code: api.ErrRange, At: at} }
func disorder(at int) api.Fault { return api.Fault{Code: api.ErrOrder, At: at} }
func invert(at int) api.Fault   { return api.Fault{Code: api.ErrInverted, At: at} }

var wrongTexts = []struct {
	s    string
	want api.Fault
}{
	// Parts that are no numbers.
	{"", syntax(0)}, {"x", syntax(0)}, {"None", syntax(0)}, {"none ", syntax(0)}, {" none", syntax(0)}, {"non", syntax(0)},
	{"none,none", syntax(0)}, {"none,1", syntax(0)}, {"1,none", syntax(1)}, {"none-1", syntax(0)},
	{",", syntax(0)}, {"1,", syntax(1)}, {",1", syntax(0)}, {"1,,3", syntax(1)}, {"1,3,", syntax(2)}, {"1-3,5-9,", syntax(2)},
	{"01", syntax(0)}, {"00", syntax(0)}, {"007", syntax(0)}, {"1-03", syntax(0)}, {"01-3", syntax(0)}, {"0-00", syntax(0)}, {"1,05", syntax(1)},
	{"+1", syntax(0)}, {"-1", syntax(0)}, {"1-+3", syntax(0)}, {"1--3", syntax(0)}, {"3,-5", syntax(1)}, {"-0", syntax(0)},
	{" 1", syntax(0)}, {"1 ", syntax(0)}, {"1 -3", syntax(0)}, {"1- 3", syntax(0)}, {"1, 3", syntax(1)}, {"1 ,3", syntax(0)}, {"1\n", syntax(0)}, {" ", syntax(0)},
	{"-", syntax(0)}, {"1-", syntax(0)}, {"--", syntax(0)}, {"1-2-3", syntax(0)}, {"1-2-", syntax(0)}, {"1-2-2", syntax(0)}, {"5,7-8-9", syntax(1)},
	{"0x1", syntax(0)}, {"1_0", syntax(0)}, {"1e3", syntax(0)}, {"1.0", syntax(0)}, {"1;3", syntax(0)}, {"a", syntax(0)}, {"1:", syntax(0)}, {"1/", syntax(0)},
	{"\xff", syntax(0)}, {"1\x00", syntax(0)}, {"\u0661", syntax(0)}, {"1\u20133", syntax(0)}, {"1\uff0c3", syntax(0)}, {"1\u00a0", syntax(0)},
	// Numbers that are too great.
	{tooGreat, outside(0)}, {farTooGreat, outside(0)}, {"0-" + tooGreat, outside(0)}, {tooGreat + "-0", outside(0)},
	{tooGreat + "-" + tooGreat, outside(0)}, {"1," + tooGreat, outside(1)}, {"1-3,5-" + tooGreat, outside(1)},
	{"18446744073709551620", outside(0)}, {"20000000000000000000", outside(0)}, {"36893488147419103232", outside(0)}, {"99999999999999999999", outside(0)},
	// A part with a number that is too great and something that is no number is not two numbers.
	{tooGreat + "x", syntax(0)}, {"0" + tooGreat, syntax(0)}, {tooGreat + "-", syntax(0)}, {tooGreat + "-x", syntax(0)},
	{"x-" + tooGreat, syntax(0)}, {tooGreat + "-01", syntax(0)}, {"01-" + tooGreat, syntax(0)}, {farTooGreat + "-1-2", syntax(0)},
	{tooGreat + "-" + tooGreat + "-" + tooGreat, syntax(0)}, {"1-2-" + tooGreat, syntax(0)}, {farTooGreat + " ", syntax(0)}, {"+" + tooGreat, syntax(0)},
	// The first such part decides, not the code.
	{"1," + tooGreat + ",x", outside(1)}, {tooGreat + ",x", outside(0)}, {"x," + tooGreat, syntax(0)}, {"1,x," + tooGreat, syntax(1)},
	{"," + tooGreat, syntax(0)}, {tooGreat + ",", outside(0)}, {"1,2-1-3," + tooGreat + ",", syntax(1)},
	// Lists that are not correct.
	{"3-1", invert(0)}, {"1,5-4", invert(1)}, {greatestText + "-0", invert(0)},
	{"1-3,4", disorder(1)}, {"1-3,3-5", disorder(1)}, {"5,1", disorder(1)}, {"1,1", disorder(1)}, {"0,2,3", disorder(2)}, {"5-9,4-3", invert(1)},
	{"1,2,9-8", disorder(1)}, {"9-8,1,2", invert(0)}, {greatestText + ",0", disorder(1)}, {"18446744073709551614," + greatestText, disorder(1)},
	// A hyphen between equal numbers.
	{"3-3", syntax(0)}, {"0-0", syntax(0)}, {"1,3-3", syntax(1)}, {"1,3-3,5-5", syntax(1)}, {"1-1,3-3", syntax(0)}, {"1-2,4-4,6", syntax(1)},
	{greatestText + "-" + greatestText, syntax(0)}, {"0," + greatestText + "-" + greatestText, syntax(1)},
	// No number and too great come before the error of the list, wherever they are.
	{"3-1,x", syntax(1)}, {"3-1," + tooGreat, outside(1)}, {"5,1,", syntax(2)}, {"5,1," + tooGreat, outside(2)}, {"1,1,01", syntax(2)},
	{"9-1,1-9," + tooGreat + "-1,x", outside(2)},
	// They come before a hyphen between equal numbers, too.
	{"3-3,x", syntax(1)}, {"3-3," + tooGreat, outside(1)}, {"1-1,3-3,05", syntax(2)}, {"3-3,5-5,7-" + tooGreat, outside(2)},
	// The error of the list comes before a hyphen between equal numbers.
	{"3-3,2", disorder(1)}, {"3-3,3-3", disorder(1)}, {"3-3,4", disorder(1)}, {"3-3,9-5", invert(1)}, {"9-5,10-10", invert(0)}, {"1,3-3,4-4,9-8", disorder(2)},
	{"3-3,9-5,x", syntax(2)}, {"3-3,9-5," + tooGreat, outside(2)},
}

func TestP4_5ParseOfWrongTexts(t *testing.T) {
	for _, c := range wrongTexts {
		got, err := ranges.Parse(c.s)
		if len(got) != 0 {
			t.Errorf("Parse(%q) = %v together with an error", c.s, got)
		}
		checkFault(t, "Parse of "+c.s, err, c.want)
	}
}

func TestP4_5ParseOfEachByte(t *testing.T) {
	for b := range 256 {
		s := string([]byte{byte(b)})
		want := syntax(0)
		if b >= '0' && b <= '9' {
			want = api.Fault{}
		}
		_, err := ranges.Parse(s)
		checkFault(t, "Parse of the byte "+s, err, want)
		_, err = ranges.Parse("1" + s + "2")
		if b == ',' {
			want = disorder(1)
		} else if b == '-' {
			want = api.Fault{}
		}
		checkFault(t, "Parse of a byte between numbers "+s, err, want)
	}
}

var (
	form    = regexp.MustCompile(`^(0|[1-9][0-9]*)(-(0|[1-9][0-9]*))?$`)
	numbers = regexp.MustCompile(`[0-9]+`)
)

// parse finds the list or the error of a text in the way of the chapter, with numbers of any size.
func parse(s string) (api.Ranges, api.Fault) {
	if s == "none" {
		return nil, api.Fault{}
	}
	var l api.Ranges
	equal := -1
	for i, part := range strings.Split(s, ",") {
		if !form.MatchString(part) {
			return nil, syntax(i)
		}
		var ends []uint64
		for _, text := range numbers.FindAllString(part, -1) {
			n, _ := new(big.Int).SetString(text, 10)
			if !n.IsUint64() {
				return nil, outside(i)
			}
			ends = append(ends, n.Uint64())
		}
		if len(ends) == 2 && ends[0] == ends[1] && equal < 0 {
			equal = i
		}
		l = append(l, iv(ends[0], ends[len(ends)-1]))
	}
	if f := wrong(l); f != (api.Fault{}) {
		return nil, f
	}
	if equal >= 0 {
		return nil, syntax(equal)
	}
	return l, api.Fault{}
}

// texts calls a function with all texts of at most so many words.
func texts(words []string, most int, visit func(s string)) {
	var add func(s string, left int)
	add = func(s string, left int) {
		visit(s)
		if left == 0 {
			return
		}
		for _, w := range words {
			add(s+w, left-1)
		}
	}
	add("", most)
}

func checkParse(t *testing.T, s string) {
	want, f := parse(s)
	got, err := ranges.Parse(s)
	if !slices.Equal(got, want) {
		t.Errorf("Parse(%q) = %v, want %v", s, got, want)
	}
	checkFault(t, "Parse of "+s, err, f)
	if err == nil && ranges.Text(got) != s {
		t.Errorf("the text of Parse(%q) is %q", s, ranges.Text(got))
	}
}

func TestP4_5ParseOfShortTexts(t *testing.T) {
	texts([]string{"0", "1", "3", "9", "-", ",", "+"}, 6, func(s string) { checkParse(t, s) })
}

func TestP4_5ParseOfWords(t *testing.T) {
	words := []string{"0", "7", "18446744073709551614", greatestText, tooGreat, farTooGreat, "-", ",", " ", "none"}
	texts(words, 5, func(s string) { checkParse(t, s) })
}

// A text of many parts has its error at the part that is wrong, however long a number is.
func TestP4_5ParseOfLongTexts(t *testing.T) {
	var parts []string
	for x := range 5000 {
		parts = append(parts, ranges.Text(api.Ranges{iv(uint64(3*x), uint64(3*x+x%2))}))
	}
	l, err := ranges.Parse(strings.Join(parts, ","))
	if len(l) != len(parts) || err != nil || l[4999] != iv(14997, 14998) {
		t.Errorf("a text of %d parts yields %d intervals and %v", len(parts), len(l), err)
	}
	for _, c := range []struct {
		part string
		want api.Fault
	}{
		{"14000-14000", disorder(4001)},
		{"12000-12000", syntax(4000)},
		{strings.Repeat("9", 100000), outside(4000)},
		{strings.Repeat("9", 100000) + "x", syntax(4000)},
		{strings.Repeat("0", 100000), syntax(4000)},
		{strings.Repeat("1-", 100000) + "1", syntax(4000)},
		{strings.Repeat(",", 100000), syntax(4000)},
	} {
		wrong := slices.Clone(parts)
		wrong[4000] = c.part
		got, err := ranges.Parse(strings.Join(wrong, ","))
		if len(got) != 0 {
			t.Errorf("%d intervals together with an error", len(got))
		}
		checkFault(t, "a long text", err, c.want)
	}
}

func TestP4_6ParseInvertsText(t *testing.T) {
	for _, in := range sets() {
		l := in.list()
		if got, err := ranges.Parse(ranges.Text(l)); !ranges.Same(got, l) || err != nil {
			t.Errorf("Parse(%q) = %v, %v", ranges.Text(l), got, err)
		}
	}
	short(func(l api.Ranges) {
		// The text of a list that is not correct is read up to the error of Check.
		got, err := ranges.Parse(ranges.Text(l))
		checkFault(t, ranges.Text(l), err, wrong(l))
		if err == nil && !ranges.Same(got, l) {
			t.Errorf("Parse(%q) = %v", ranges.Text(l), got)
		}
	})
}

func TestP4_6NormalOfNormal(t *testing.T) {
	for _, in := range sets() {
		l := in.list()
		if got, err := ranges.Normal(l); !ranges.Same(got, l) || err != nil {
			t.Errorf("Normal(%v) = %v, %v", l, got, err)
		}
	}
	short(func(l api.Ranges) {
		once, err := ranges.Normal(l)
		if err != nil {
			return
		}
		if twice, err := ranges.Normal(once); !ranges.Same(twice, once) || err != nil {
			t.Errorf("the normal form of %v is %v, %v", once, twice, err)
		}
	})
}

func TestExampleOfTheChapter(t *testing.T) {
	l, err := ranges.Normal(api.Ranges{iv(5, 9), iv(1, 2), iv(3, 3)})
	if got := ranges.Text(l); got != "1-3,5-9" || err != nil {
		t.Errorf("the text of the normal form is %q, %v", got, err)
	}
}

// P1: no argument makes a function panic, not even a list that is not correct.
func TestP1AllLists(t *testing.T) {
	short(func(l api.Ranges) {
		for _, x := range []uint64{0, 1, 3, 5, greatest - 5, greatest - 2, greatest} {
			ranges.Find(l, x)
			ranges.Has(l, x)
		}
		ranges.Same(l, l[:len(l)/2])
	})
}

// Rule 4: no argument is changed, nor what is behind its end.
func TestArgumentsStay(t *testing.T) {
	memory := api.Ranges{iv(5, 9), iv(1, 2), iv(2, 1), iv(4, 4)}
	before := slices.Clone(memory)
	for n := range len(memory) + 1 {
		l := memory[:n]
		_ = ranges.Check(l)
		ranges.Find(l, 5)
		ranges.Has(l, 5)
		ranges.Same(l, l)
		ranges.Text(l)
		_, _ = ranges.Normal(l)
		if !slices.Equal(memory, before) {
			t.Fatalf("the list %v is now %v", before, memory)
		}
	}
}

// P2 and rule 4: what is done with the result of a call changes no other one.
func TestP2Independent(t *testing.T) {
	l, want := api.Ranges{iv(5, 9), iv(1, 2)}, api.Ranges{iv(1, 2), iv(5, 9)}
	for name, call := range map[string]func() (api.Ranges, error){
		"Normal": func() (api.Ranges, error) { return ranges.Normal(l) },
		"Parse":  func() (api.Ranges, error) { return ranges.Parse("1-2,5-9") },
	} {
		first, _ := call()
		second, _ := call()
		clear(first)
		_ = append(first[:1], iv(20, 21))
		if !ranges.Same(second, want) {
			t.Errorf("a change of one result of %s makes another one %v", name, second)
		}
		if third, err := call(); !ranges.Same(third, want) || err != nil {
			t.Errorf("after a change of its result, %s returns %v, %v", name, third, err)
		}
	}
}

// Errors are found by their codes and their offsets, also behind a name.
func TestErrors(t *testing.T) {
	_, err := ranges.Parse("1,3-2")
	err = fault.Wrap("items", err)
	if fault.Code(err) != api.ErrInverted || fault.At(err) != 1 || err.Error() != "items: error 2" {
		t.Errorf("the error is %v with the code %d and the offset %d", err, fault.Code(err), fault.At(err))
	}
}

// Rule 6: the functions may be called concurrently.
func TestConcurrent(t *testing.T) {
	l := api.Ranges{iv(5, 9), iv(1, 2), iv(3, 3)}
	var wait sync.WaitGroup
	for i := range 8 {
		wait.Go(func() {
			got, err := ranges.Normal(l)
			if ranges.Text(got) != "1-3,5-9" || err != nil {
				t.Errorf("goroutine %d: Normal = %v, %v", i, got, err)
			}
			if got, err := ranges.Parse("1-3,5-9"); ranges.Find(got, uint64(5+i%4)) != 1 || err != nil {
				t.Errorf("goroutine %d: Parse = %v, %v", i, got, err)
			}
		})
	}
	wait.Wait()
}
