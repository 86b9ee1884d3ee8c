package setops_test

import (
	"math"
	"math/rand"
	"slices"
	"sync"
	"testing"

	"kenning/api"
	"kenning/ranges"
	"kenning/setops"
)

const greatest = math.MaxUint64

func iv(lo, hi uint64) api.Interval { return api.Interval{Lo: lo, Hi: hi} }

// line is some cells in ascending order, each one directly behind the one before it. A set of cells is a number with a bit for each.
type line []api.Interval

// singles returns a line of cells with one number each.
func singles(least uint64, count int) line {
	var l line
	for x := range uint64(count) {
		l = append(l, iv(least+x, least+x))
	}
	return l
}

// ends returns a line of all numbers: cells of one number at both ends, and one of all the numbers between them.
func ends(edge int) line {
	l := append(singles(0, edge), iv(uint64(edge), greatest-uint64(edge)))
	return append(l, singles(greatest-uint64(edge)+1, edge)...)
}

// lines returns the lines that the tests go through: the first numbers, some in the middle, the last ones, and all.
func lines(edge int) []line {
	count := 2*edge + 1
	return []line{singles(0, count), singles(1<<63-uint64(edge), count), singles(greatest-uint64(count)+1, count), ends(edge)}
}

// list returns the list of a set: one interval for each run of cells.
func (l line) list(set uint) api.Ranges {
	var r api.Ranges
	for i, cell := range l {
		switch {
		case set>>i&1 == 0:
		case i > 0 && set>>(i-1)&1 == 1:
			r[len(r)-1].Hi = cell.Hi
		default:
			r = append(r, cell)
		}
	}
	return r
}

// lists returns the lists of all sets of a line, each at the index that is its set.
func (l line) lists() []api.Ranges {
	r := make([]api.Ranges, 1<<len(l))
	for set := range r {
		r[set] = l.list(uint(set))
	}
	return r
}

// blocks calls a function with all intervals of whole cells and their sets.
func (l line) blocks(visit func(s api.Interval, set uint)) {
	for first := range l {
		set := uint(0)
		for last := first; last < len(l); last++ {
			set |= 1 << last
			visit(iv(l[first].Lo, l[last].Hi), set)
		}
	}
}

// all calls a function with each pair of sets of each line, and with the lists of all sets of this line.
func all(edge int, visit func(lists []api.Ranges, a, b uint)) {
	for _, l := range lines(edge) {
		lists := l.lists()
		for a := range uint(len(lists)) {
			for b := range uint(len(lists)) {
				visit(lists, a, b)
			}
		}
	}
}

// holds reports whether one of the intervals has a number.
func holds(l api.Ranges, x uint64) bool {
	return slices.ContainsFunc(l, func(s api.Interval) bool { return s.Lo <= x && x <= s.Hi })
}

// checkList checks that a list is correct, and that it is the one that is wanted.
func checkList(t *testing.T, name string, a, b, got, want api.Ranges) {
	t.Helper()
	if err := ranges.Check(got); err != nil {
		t.Errorf("%s(%v, %v) = %v, which is not correct: %v", name, a, b, got, err)
	}
	if !slices.Equal(got, want) {
		t.Errorf("%s(%v, %v) = %v, want %v", name, a, b, got, want)
	}
}

// cases are pairs of lists and what is in both, in one of them, and only in the first one or the second one.
var cases = []struct {
	name                      string
	a, b                      api.Ranges
	union, meet, minus, minor api.Ranges
}{
	{name: "empty on both sides"},
	{name: "empty lists that are not nil", a: api.Ranges{}, b: api.Ranges{}},
	{
		name: "empty on one side", a: api.Ranges{iv(1, 3), iv(5, 9)},
		union: api.Ranges{iv(1, 3), iv(5, 9)}, minus: api.Ranges{iv(1, 3), iv(5, 9)},
	},
	{
		name: "empty beside all numbers", a: api.Ranges{iv(0, greatest)}, b: api.Ranges{},
		union: api.Ranges{iv(0, greatest)}, minus: api.Ranges{iv(0, greatest)},
	},
	{
		name: "equal", a: api.Ranges{iv(1, 3), iv(5, 9)}, b: api.Ranges{iv(1, 3), iv(5, 9)},
		union: api.Ranges{iv(1, 3), iv(5, 9)}, meet: api.Ranges{iv(1, 3), iv(5, 9)},
	},
	{
		name: "all numbers", a: api.Ranges{iv(0, greatest)}, b: api.Ranges{iv(0, greatest)},
		union: api.Ranges{iv(0, greatest)}, meet: api.Ranges{iv(0, greatest)},
	},
	{
		name: "apart", a: api.Ranges{iv(1, 3)}, b: api.Ranges{iv(7, 9)},
		union: api.Ranges{iv(1, 3), iv(7, 9)}, minus: api.Ranges{iv(1, 3)}, minor: api.Ranges{iv(7, 9)},
	},
	{
		name: "one number between", a: api.Ranges{iv(1, 3)}, b: api.Ranges{iv(5, 9)},
		union: api.Ranges{iv(1, 3), iv(5, 9)}, minus: api.Ranges{iv(1, 3)}, minor: api.Ranges{iv(5, 9)},
	},
	{
		name: "touching", a: api.Ranges{iv(1, 3)}, b: api.Ranges{iv(4, 9)},
		union: api.Ranges{iv(1, 9)}, minus: api.Ranges{iv(1, 3)}, minor: api.Ranges{iv(4, 9)},
	},
	{
		name: "touching again and again", a: api.Ranges{iv(1, 1), iv(3, 3), iv(5, 5)}, b: api.Ranges{iv(2, 2), iv(4, 4), iv(6, 6)},
		union: api.Ranges{iv(1, 6)}, minus: api.Ranges{iv(1, 1), iv(3, 3), iv(5, 5)}, minor: api.Ranges{iv(2, 2), iv(4, 4), iv(6, 6)},
	},
	{
		name: "touching on both sides", a: api.Ranges{iv(1, 3), iv(7, 9)}, b: api.Ranges{iv(4, 6)},
		union: api.Ranges{iv(1, 9)}, minus: api.Ranges{iv(1, 3), iv(7, 9)}, minor: api.Ranges{iv(4, 6)},
	},
	{
		name: "meeting in one number", a: api.Ranges{iv(1, 4)}, b: api.Ranges{iv(4, 9)},
		union: api.Ranges{iv(1, 9)}, meet: api.Ranges{iv(4, 4)}, minus: api.Ranges{iv(1, 3)}, minor: api.Ranges{iv(5, 9)},
	},
	{
		name: "meeting twice in one number", a: api.Ranges{iv(1, 4), iv(9, 12)}, b: api.Ranges{iv(4, 9)},
		union: api.Ranges{iv(1, 12)}, meet: api.Ranges{iv(4, 4), iv(9, 9)},
		minus: api.Ranges{iv(1, 3), iv(10, 12)}, minor: api.Ranges{iv(5, 8)},
	},
	{
		name: "within", a: api.Ranges{iv(1, 9)}, b: api.Ranges{iv(3, 5)},
		union: api.Ranges{iv(1, 9)}, meet: api.Ranges{iv(3, 5)}, minus: api.Ranges{iv(1, 2), iv(6, 9)},
	},
	{
		name: "within at the beginning", a: api.Ranges{iv(1, 9)}, b: api.Ranges{iv(1, 5)},
		union: api.Ranges{iv(1, 9)}, meet: api.Ranges{iv(1, 5)}, minus: api.Ranges{iv(6, 9)},
	},
	{
		name: "within at the end", a: api.Ranges{iv(1, 9)}, b: api.Ranges{iv(5, 9)},
		union: api.Ranges{iv(1, 9)}, meet: api.Ranges{iv(5, 9)}, minus: api.Ranges{iv(1, 4)},
	},
	{
		name: "across", a: api.Ranges{iv(1, 6), iv(8, 12)}, b: api.Ranges{iv(4, 9), iv(11, 20)},
		union: api.Ranges{iv(1, 20)}, meet: api.Ranges{iv(4, 6), iv(8, 9), iv(11, 12)},
		minus: api.Ranges{iv(1, 3), iv(10, 10)}, minor: api.Ranges{iv(7, 7), iv(13, 20)},
	},
	{
		name: "many within one", a: api.Ranges{iv(0, 20)}, b: api.Ranges{iv(0, 1), iv(4, 4), iv(6, 9), iv(20, 22)},
		union: api.Ranges{iv(0, 22)}, meet: api.Ranges{iv(0, 1), iv(4, 4), iv(6, 9), iv(20, 20)},
		minus: api.Ranges{iv(2, 3), iv(5, 5), iv(10, 19)}, minor: api.Ranges{iv(21, 22)},
	},
	{
		name: "both ends", a: api.Ranges{iv(0, 0), iv(greatest, greatest)}, b: api.Ranges{iv(1, greatest-1)},
		union: api.Ranges{iv(0, greatest)}, minus: api.Ranges{iv(0, 0), iv(greatest, greatest)}, minor: api.Ranges{iv(1, greatest-1)},
	},
	{
		name: "both ends of both", a: api.Ranges{iv(0, 4), iv(9, greatest)}, b: api.Ranges{iv(0, 6), iv(8, greatest)},
		union: api.Ranges{iv(0, 6), iv(8, greatest)}, meet: api.Ranges{iv(0, 4), iv(9, greatest)},
		minor: api.Ranges{iv(5, 6), iv(8, 8)},
	},
	{
		name: "all without the ends", a: api.Ranges{iv(0, greatest)}, b: api.Ranges{iv(0, 0), iv(greatest, greatest)},
		union: api.Ranges{iv(0, greatest)}, meet: api.Ranges{iv(0, 0), iv(greatest, greatest)}, minus: api.Ranges{iv(1, greatest-1)},
	},
	{
		name: "all up to the last but one", a: api.Ranges{iv(0, greatest)}, b: api.Ranges{iv(0, greatest-1)},
		union: api.Ranges{iv(0, greatest)}, meet: api.Ranges{iv(0, greatest-1)}, minus: api.Ranges{iv(greatest, greatest)},
	},
	{
		name: "two halves", a: api.Ranges{iv(0, 1<<63-1)}, b: api.Ranges{iv(1<<63, greatest)},
		union: api.Ranges{iv(0, greatest)}, minus: api.Ranges{iv(0, 1<<63-1)}, minor: api.Ranges{iv(1<<63, greatest)},
	},
	{
		name: "two halves that meet", a: api.Ranges{iv(0, 1<<63)}, b: api.Ranges{iv(1<<63, greatest)},
		union: api.Ranges{iv(0, greatest)}, meet: api.Ranges{iv(1<<63, 1<<63)},
		minus: api.Ranges{iv(0, 1<<63-1)}, minor: api.Ranges{iv(1<<63+1, greatest)},
	},
	{
		name: "all but one number", a: api.Ranges{iv(0, 1<<63-1), iv(1<<63+1, greatest)}, b: api.Ranges{iv(1<<63, 1<<63)},
		union: api.Ranges{iv(0, greatest)}, minus: api.Ranges{iv(0, 1<<63-1), iv(1<<63+1, greatest)}, minor: api.Ranges{iv(1<<63, 1<<63)},
	},
	{
		name: "the last number on both sides", a: api.Ranges{iv(greatest, greatest)}, b: api.Ranges{iv(greatest, greatest)},
		union: api.Ranges{iv(greatest, greatest)}, meet: api.Ranges{iv(greatest, greatest)},
	},
	{
		name: "the first number and the last one", a: api.Ranges{iv(0, 0)}, b: api.Ranges{iv(greatest, greatest)},
		union: api.Ranges{iv(0, 0), iv(greatest, greatest)}, minus: api.Ranges{iv(0, 0)}, minor: api.Ranges{iv(greatest, greatest)},
	},
}

func TestP5_1(t *testing.T) {
	for _, c := range cases {
		t.Run(c.name, func(t *testing.T) {
			checkList(t, "Union", c.a, c.b, setops.Union(c.a, c.b), c.union)
			checkList(t, "Union", c.b, c.a, setops.Union(c.b, c.a), c.union)
			checkList(t, "Meet", c.a, c.b, setops.Meet(c.a, c.b), c.meet)
			checkList(t, "Meet", c.b, c.a, setops.Meet(c.b, c.a), c.meet)
			checkList(t, "Minus", c.a, c.b, setops.Minus(c.a, c.b), c.minus)
			checkList(t, "Minus", c.b, c.a, setops.Minus(c.b, c.a), c.minor)
		})
	}
}

// One list on both sides is also the same memory.
func TestP5_1SameList(t *testing.T) {
	for _, l := range lines(3) {
		for _, a := range l.lists() {
			checkList(t, "Union", a, a, setops.Union(a, a), a)
			checkList(t, "Meet", a, a, setops.Meet(a, a), a)
			checkList(t, "Minus", a, a, setops.Minus(a, a), nil)
		}
	}
}

func TestP5_1AllSets(t *testing.T) {
	all(3, func(lists []api.Ranges, a, b uint) {
		checkList(t, "Union", lists[a], lists[b], setops.Union(lists[a], lists[b]), lists[a|b])
		checkList(t, "Meet", lists[a], lists[b], setops.Meet(lists[a], lists[b]), lists[a&b])
		checkList(t, "Minus", lists[a], lists[b], setops.Minus(lists[a], lists[b]), lists[a&^b])
	})
}

// Each number on its own, with the numbers around those of the lists.
func TestP5_1EachNumber(t *testing.T) {
	for _, l := range lines(2) {
		lists := l.lists()
		least, last := l[0].Lo-2, l[len(l)-1].Hi+2
		for _, a := range lists {
			for _, b := range lists {
				union, meet, minus := setops.Union(a, b), setops.Meet(a, b), setops.Minus(a, b)
				for n := range uint64(9) {
					for _, x := range []uint64{least + n, last - n} {
						inA, inB := holds(a, x), holds(b, x)
						if holds(union, x) != (inA || inB) || holds(meet, x) != (inA && inB) || holds(minus, x) != (inA && !inB) {
							t.Errorf("%v and %v: union %v, meet %v, minus %v differ at %d", a, b, union, meet, minus, x)
						}
					}
				}
			}
		}
	}
}

// runs returns the list of the numbers that have a flag.
func runs(in []bool) api.Ranges {
	var l api.Ranges
	for x, ok := range in {
		switch {
		case ok && x > 0 && in[x-1]:
			l[len(l)-1].Hi = uint64(x)
		case ok:
			l = append(l, iv(uint64(x), uint64(x)))
		}
	}
	return l
}

func TestP5_1LongLists(t *testing.T) {
	random := rand.New(rand.NewSource(5))
	for range 100 {
		var a, b, union, meet, minus [3000]bool
		parts := 2 + random.Intn(9)
		for x := range a {
			a[x], b[x] = random.Intn(parts) == 0, random.Intn(3) == 0
			if x > 0 && random.Intn(2) == 0 {
				a[x] = a[x-1]
			}
			union[x], meet[x], minus[x] = a[x] || b[x], a[x] && b[x], a[x] && !b[x]
		}
		l, r := runs(a[:]), runs(b[:])
		checkList(t, "Union", l, r, setops.Union(l, r), runs(union[:]))
		checkList(t, "Meet", l, r, setops.Meet(l, r), runs(meet[:]))
		checkList(t, "Minus", l, r, setops.Minus(l, r), runs(minus[:]))
	}
}

func TestP5_2Not(t *testing.T) {
	some := api.Ranges{iv(3, 5), iv(7, 7), iv(10, 19)}
	for _, c := range []struct {
		a      api.Ranges
		within api.Interval
		want   api.Ranges
	}{
		{nil, iv(0, 0), api.Ranges{iv(0, 0)}},
		{nil, iv(3, 9), api.Ranges{iv(3, 9)}},
		{api.Ranges{}, iv(greatest, greatest), api.Ranges{iv(greatest, greatest)}},
		// All numbers.
		{nil, iv(0, greatest), api.Ranges{iv(0, greatest)}},
		{api.Ranges{iv(0, greatest)}, iv(0, greatest), nil},
		{some, iv(0, greatest), api.Ranges{iv(0, 2), iv(6, 6), iv(8, 9), iv(20, greatest)}},
		{api.Ranges{iv(0, 0), iv(greatest, greatest)}, iv(0, greatest), api.Ranges{iv(1, greatest-1)}},
		{api.Ranges{iv(1, greatest-1)}, iv(0, greatest), api.Ranges{iv(0, 0), iv(greatest, greatest)}},
		{api.Ranges{iv(0, greatest-1)}, iv(0, greatest), api.Ranges{iv(greatest, greatest)}},
		{api.Ranges{iv(1, greatest)}, iv(0, greatest), api.Ranges{iv(0, 0)}},
		{api.Ranges{iv(0, greatest)}, iv(3, 9), nil},
		// A single number.
		{some, iv(2, 2), api.Ranges{iv(2, 2)}},
		{some, iv(3, 3), nil},
		{some, iv(5, 5), nil},
		{some, iv(6, 6), api.Ranges{iv(6, 6)}},
		{some, iv(7, 7), nil},
		{api.Ranges{iv(0, 0)}, iv(0, 0), nil},
		{api.Ranges{iv(1, 1)}, iv(0, 0), api.Ranges{iv(0, 0)}},
		{api.Ranges{iv(greatest, greatest)}, iv(greatest, greatest), nil},
		{api.Ranges{iv(0, greatest-1)}, iv(greatest, greatest), api.Ranges{iv(greatest, greatest)}},
		// The list is wholly outside, directly beside the interval and further away.
		{some, iv(0, 1), api.Ranges{iv(0, 1)}},
		{some, iv(0, 2), api.Ranges{iv(0, 2)}},
		{some, iv(8, 9), api.Ranges{iv(8, 9)}},
		{some, iv(20, 29), api.Ranges{iv(20, 29)}},
		{some, iv(21, greatest), api.Ranges{iv(21, greatest)}},
		{api.Ranges{iv(0, 2), iv(10, greatest)}, iv(3, 9), api.Ranges{iv(3, 9)}},
		{api.Ranges{iv(0, 1), iv(11, greatest)}, iv(3, 9), api.Ranges{iv(3, 9)}},
		// On the ends of the interval, and across them.
		{api.Ranges{iv(2, 3), iv(9, 9)}, iv(0, 9), api.Ranges{iv(0, 1), iv(4, 8)}},
		{api.Ranges{iv(3, 3), iv(9, 9)}, iv(3, 9), api.Ranges{iv(4, 8)}},
		{api.Ranges{iv(1, 3), iv(9, 12)}, iv(3, 9), api.Ranges{iv(4, 8)}},
		{api.Ranges{iv(1, 4), iv(8, 12)}, iv(3, 9), api.Ranges{iv(5, 7)}},
		{api.Ranges{iv(3, 9)}, iv(3, 9), nil},
		{api.Ranges{iv(3, 8)}, iv(3, 9), api.Ranges{iv(9, 9)}},
		{api.Ranges{iv(4, 9)}, iv(3, 9), api.Ranges{iv(3, 3)}},
		{api.Ranges{iv(2, 10)}, iv(3, 9), nil},
		{some, iv(4, 12), api.Ranges{iv(6, 6), iv(8, 9)}},
		{some, iv(6, 9), api.Ranges{iv(6, 6), iv(8, 9)}},
		{some, iv(1<<63, greatest-1), api.Ranges{iv(1<<63, greatest-1)}},
	} {
		checkList(t, "Not", c.a, api.Ranges{c.within}, setops.Not(c.a, c.within), c.want)
	}
}

func TestP5_2AllSets(t *testing.T) {
	for _, l := range lines(4) {
		lists := l.lists()
		l.blocks(func(within api.Interval, set uint) {
			for a, list := range lists {
				checkList(t, "Not", list, api.Ranges{within}, setops.Not(list, within), lists[set&^uint(a)])
			}
		})
	}
}

func TestP5_3(t *testing.T) {
	for _, c := range cases {
		t.Run(c.name, func(t *testing.T) {
			if got, want := setops.Subset(c.a, c.b), len(c.minus) == 0; got != want {
				t.Errorf("Subset(%v, %v) = %t", c.a, c.b, got)
			}
			if got, want := setops.Subset(c.b, c.a), len(c.minor) == 0; got != want {
				t.Errorf("Subset(%v, %v) = %t", c.b, c.a, got)
			}
			if got, want := setops.Disjoint(c.a, c.b), len(c.meet) == 0; got != want {
				t.Errorf("Disjoint(%v, %v) = %t", c.a, c.b, got)
			}
			if got, want := setops.Disjoint(c.b, c.a), len(c.meet) == 0; got != want {
				t.Errorf("Disjoint(%v, %v) = %t", c.b, c.a, got)
			}
		})
	}
}

func TestP5_3AllSets(t *testing.T) {
	all(3, func(lists []api.Ranges, a, b uint) {
		if got, want := setops.Subset(lists[a], lists[b]), a&b == a; got != want {
			t.Errorf("Subset(%v, %v) = %t", lists[a], lists[b], got)
		}
		if got, want := setops.Disjoint(lists[a], lists[b]), a&b == 0; got != want {
			t.Errorf("Disjoint(%v, %v) = %t", lists[a], lists[b], got)
		}
	})
}

// Only the last numbers of long lists decide.
func TestP5_3LongLists(t *testing.T) {
	var even, odd api.Ranges
	for x := range uint64(1000) {
		even, odd = append(even, iv(2*x, 2*x)), append(odd, iv(2*x+1, 2*x+1))
	}
	if !setops.Disjoint(even, odd) || !setops.Disjoint(odd, even) || setops.Subset(even, odd) {
		t.Error("even and odd numbers are not apart")
	}
	if more := append(slices.Clone(odd), iv(greatest, greatest)); !setops.Subset(odd, more) || setops.Subset(more, odd) {
		t.Error("the last interval does not decide on a subset")
	}
	if more := append(slices.Clone(odd[:999]), iv(1998, 1999)); setops.Disjoint(even, more) || !setops.Subset(odd, more) || setops.Subset(more, odd) {
		t.Error("the last number does not decide")
	}
}

func TestP5_4PairsOfSets(t *testing.T) {
	all(3, func(lists []api.Ranges, a, b uint) {
		x, y := lists[a], lists[b]
		meet, minus := setops.Meet(x, y), setops.Minus(x, y)
		checkList(t, "Union", y, x, setops.Union(y, x), setops.Union(x, y))
		checkList(t, "Meet", y, x, setops.Meet(y, x), meet)
		checkList(t, "Union of Meet and Minus", x, y, setops.Union(meet, minus), x)
		if !setops.Disjoint(meet, minus) || !setops.Subset(meet, y) || !setops.Disjoint(minus, y) {
			t.Errorf("%v is cut by %v into %v and %v", x, y, meet, minus)
		}
		if got := setops.Subset(x, y); got != (len(minus) == 0) {
			t.Errorf("Subset(%v, %v) = %t, but Minus is %v", x, y, got, minus)
		}
	})
}

func TestP5_4TriplesOfSets(t *testing.T) {
	all(2, func(lists []api.Ranges, a, b uint) {
		x, y := lists[a], lists[b]
		union, meet := setops.Union(x, y), setops.Meet(x, y)
		for c, z := range lists {
			set := uint(c)
			checkList(t, "Union, grouped to the left", x, y, setops.Union(union, z), lists[a|b|set])
			checkList(t, "Union, grouped to the right", x, y, setops.Union(x, setops.Union(y, z)), lists[a|b|set])
			checkList(t, "Meet, grouped to the left", x, y, setops.Meet(meet, z), lists[a&b&set])
			checkList(t, "Meet, grouped to the right", x, y, setops.Meet(x, setops.Meet(y, z)), lists[a&b&set])
		}
	})
}

func TestExampleOfTheChapter(t *testing.T) {
	got := setops.Not(api.Ranges{iv(2, 3), iv(9, 9)}, iv(0, 9))
	if ranges.Text(got) != "0-1,4-8" {
		t.Errorf("the numbers are %v", got)
	}
}

// operations are the functions with a list as their result, all with two lists as arguments.
func operations() map[string]func(a, b api.Ranges) api.Ranges {
	return map[string]func(a, b api.Ranges) api.Ranges{
		"Union": setops.Union,
		"Meet":  setops.Meet,
		"Minus": setops.Minus,
		"Not":   func(a, b api.Ranges) api.Ranges { return setops.Not(a, iv(0, greatest)) },
		"Not within the first interval": func(a, b api.Ranges) api.Ranges {
			if len(b) == 0 {
				return nil
			}
			return setops.Not(a, b[0])
		},
	}
}

// P1: no argument makes a function panic or run on, not even a list or an interval that is not correct.
func TestP1AllLists(t *testing.T) {
	numbers := []uint64{0, 1, 2, greatest - 1, greatest}
	var intervals api.Ranges
	for _, lo := range numbers {
		for _, hi := range numbers {
			intervals = append(intervals, iv(lo, hi))
		}
	}
	lists := []api.Ranges{nil, {}}
	for _, a := range intervals {
		lists = append(lists, api.Ranges{a})
		for _, b := range intervals {
			lists = append(lists, api.Ranges{a, b})
		}
	}
	for _, a := range lists {
		for _, b := range lists {
			setops.Union(a, b)
			setops.Meet(a, b)
			setops.Minus(a, b)
			setops.Subset(a, b)
			setops.Disjoint(a, b)
		}
		for _, within := range intervals {
			setops.Not(a, within)
		}
	}
}

// Rule 4: no argument is changed, nothing behind its end is read or changed, and no result shares memory with it.
func TestArgumentsStay(t *testing.T) {
	// What is behind the ends would change the results.
	memoryA := api.Ranges{iv(0, 4), iv(6, 6), iv(9, 12), iv(20, greatest), iv(14, 15)}
	memoryB := api.Ranges{iv(3, 9), iv(11, 11), iv(14, 20), iv(22, 29), iv(31, greatest)}
	beforeA, beforeB := slices.Clone(memoryA), slices.Clone(memoryB)
	for name, call := range operations() {
		for n := range len(memoryA) {
			for m := range len(memoryB) + 1 {
				a, b := memoryA[:n], memoryB[:m]
				want := call(slices.Clip(slices.Clone(a)), slices.Clip(slices.Clone(b)))
				got := call(a, b)
				checkList(t, name, a, b, got, want)
				setops.Subset(a, b)
				setops.Disjoint(a, b)
				if !slices.Equal(memoryA, beforeA) || !slices.Equal(memoryB, beforeB) {
					t.Fatalf("%s makes its arguments %v and %v", name, memoryA, memoryB)
				}
				whole := got[:cap(got)]
				for i := range whole {
					whole[i] = iv(77, 77)
				}
				if !slices.Equal(memoryA, beforeA) || !slices.Equal(memoryB, beforeB) {
					t.Fatalf("a change of the result of %s makes its arguments %v and %v", name, memoryA, memoryB)
				}
			}
		}
	}
}

// Rule 4: a result stays as it is when the arguments change after the call.
func TestResultsStay(t *testing.T) {
	for name, call := range operations() {
		for _, c := range cases {
			a, b := slices.Clone(c.a), slices.Clone(c.b)
			got := call(a, b)
			want := slices.Clone(got)
			for _, l := range []api.Ranges{a, b} {
				for i := range l {
					l[i] = iv(77, 77)
				}
			}
			if !slices.Equal(got, want) {
				t.Errorf("%s: a change of the arguments of %s makes the result %v %v", c.name, name, want, got)
			}
		}
	}
}

// P2 and rule 4: what is done with the result of a call changes no other one.
func TestP2Independent(t *testing.T) {
	a, b := api.Ranges{iv(1, 9), iv(20, 29)}, api.Ranges{iv(3, 12), iv(22, 40)}
	for name, call := range operations() {
		first, second := call(a, b), call(a, b)
		want := slices.Clone(second)
		if len(want) == 0 {
			t.Errorf("the result of %s is empty", name)
			continue
		}
		clear(first)
		_ = append(first[:1], iv(77, 77))
		if !slices.Equal(second, want) {
			t.Errorf("a change of one result of %s makes another one %v", name, second)
		}
		if third := call(a, b); !slices.Equal(third, want) {
			t.Errorf("after a change of its result, %s returns %v", name, third)
		}
	}
}

// Rule 6: the functions may be called concurrently, also with the same lists.
func TestConcurrent(t *testing.T) {
	var wait sync.WaitGroup
	for i := range 8 {
		wait.Go(func() {
			for _, c := range cases {
				union, meet, minus := setops.Union(c.a, c.b), setops.Meet(c.a, c.b), setops.Minus(c.a, c.b)
				if !slices.Equal(union, c.union) || !slices.Equal(meet, c.meet) || !slices.Equal(minus, c.minus) {
					t.Errorf("goroutine %d: %s: %v, %v and %v", i, c.name, union, meet, minus)
				}
			}
		})
	}
	wait.Wait()
}
