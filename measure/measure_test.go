package measure_test

import (
	"math"
	"math/big"
	"math/rand"
	"slices"
	"sync"
	"testing"

	"kenning/api"
	"kenning/measure"
	"kenning/ranges"
	"kenning/setops"
	"kenning/word"
)

const greatest = math.MaxUint64

func iv(lo, hi uint64) api.Interval { return api.Interval{Lo: lo, Hi: hi} }

// few returns a count that is a number.
func few(n uint64) word.Count { return word.Count{Low: n} }

// all is the list of all numbers, the only one with a count that is not a number.
var all = api.Ranges{iv(0, greatest)}

// line is some cells in ascending order, each one directly behind the one before it. A set of cells is a number with a bit for each.
type line []api.Interval

// singles returns a line of cells with one number each.
func singles(least uint64, count int) line {
	var l line
	for x := range uint64(count) {
		l = append(l, iv(least+x, least+x))
	}
	return l
}

// ends returns a line of all numbers: cells of one number at both ends, and two halves of the numbers between them.
func ends(edge int) line {
	l := append(singles(0, edge), iv(uint64(edge), 1<<63-1), iv(1<<63, greatest-uint64(edge)))
	return append(l, singles(greatest-uint64(edge)+1, edge)...)
}

// lines are the first numbers, some in the middle, the last ones, and all.
func lines() []line {
	return []line{singles(0, 8), singles(1<<63-4, 8), singles(greatest-7, 8), ends(3)}
}

// list returns the list of a set: one interval for each run of cells.
func (l line) list(set uint) api.Ranges {
	var r api.Ranges
	for i, cell := range l {
		switch {
		case set>>i&1 == 0:
		case i > 0 && set>>(i-1)&1 == 1:
			r[len(r)-1].Hi = cell.Hi
		default:
			r = append(r, cell)
		}
	}
	return r
}

// sets calls a function with the lists of all sets of all lines.
func sets(visit func(l api.Ranges)) {
	for _, cells := range lines() {
		for set := range uint(1) << len(cells) {
			visit(cells.list(set))
		}
	}
}

// around are numbers at, in front of and behind the ends of intervals, and at the ends of all numbers.
func around(l api.Ranges) []uint64 {
	near := []uint64{0, 1, 2, 1<<63 - 1, 1 << 63, 1<<63 + 1, greatest - 1, greatest}
	for _, s := range l {
		// Numbers that wrap around are at the ends of all numbers, too.
		near = append(near, s.Lo-1, s.Lo, s.Lo+1, s.Lo+(s.Hi-s.Lo)/2, s.Hi-1, s.Hi, s.Hi+1)
	}
	slices.Sort(near)
	return slices.Compact(near)
}

// bigOf returns a number of any size.
func bigOf(x uint64) *big.Int { return new(big.Int).SetUint64(x) }

// bigCount returns what a count stands for.
func bigCount(c word.Count) *big.Int {
	n := bigOf(c.Over)
	return n.Add(n.Lsh(n, 64), bigOf(c.Low))
}

// bigRank returns how many numbers of a list are less than a limit, which may be 2^64.
func bigRank(l api.Ranges, limit *big.Int) *big.Int {
	rank := new(big.Int)
	for _, s := range l {
		end := new(big.Int).Add(bigOf(s.Hi), big.NewInt(1))
		if end.Cmp(limit) > 0 {
			end = limit
		}
		if width := new(big.Int).Sub(end, bigOf(s.Lo)); width.Sign() > 0 {
			rank.Add(rank, width)
		}
	}
	return rank
}

// bigAll returns how many numbers are in a list.
func bigAll(l api.Ranges) *big.Int { return bigRank(l, new(big.Int).Lsh(big.NewInt(1), 64)) }

// holds reports whether one of the intervals has a number.
func holds(l api.Ranges, x uint64) bool {
	return slices.ContainsFunc(l, func(s api.Interval) bool { return s.Lo <= x && x <= s.Hi })
}

// numbersOf returns the numbers of a list with few of them.
func numbersOf(l api.Ranges) []uint64 {
	var r []uint64
	for _, s := range l {
		for n := range s.Hi - s.Lo + 1 {
			r = append(r, s.Lo+n)
		}
	}
	return r
}

func TestP6_1Count(t *testing.T) {
	for _, c := range []struct {
		l    api.Ranges
		want word.Count
	}{
		{nil, few(0)},
		{api.Ranges{}, few(0)},
		{api.Ranges{iv(0, 0)}, few(1)},
		{api.Ranges{iv(7, 7)}, few(1)},
		{api.Ranges{iv(greatest, greatest)}, few(1)},
		{api.Ranges{iv(0, 1)}, few(2)},
		{api.Ranges{iv(2, 3), iv(9, 9)}, few(3)},
		{api.Ranges{iv(0, 0), iv(2, 2), iv(4, 4), iv(6, 9)}, few(7)},
		{api.Ranges{iv(0, 0), iv(greatest, greatest)}, few(2)},
		{api.Ranges{iv(0, 1<<32-1)}, few(1 << 32)},
		{api.Ranges{iv(0, 1<<63-1)}, few(1 << 63)},
		{api.Ranges{iv(1<<63, greatest)}, few(1 << 63)},
		{api.Ranges{iv(0, greatest-1)}, few(greatest)},
		{api.Ranges{iv(1, greatest)}, few(greatest)},
		{api.Ranges{iv(0, 1<<63-1), iv(1<<63+1, greatest)}, few(greatest)},
		{api.Ranges{iv(1, greatest-1)}, few(greatest - 1)},
		{all, word.Count{Over: 1}},
	} {
		if got := measure.Count(c.l); got != c.want {
			t.Errorf("Count(%v) = %v, want %v", c.l, got, c.want)
		}
	}
}

func TestP6_1CountOfAllSets(t *testing.T) {
	sets(func(l api.Ranges) {
		if got, want := measure.Count(l), bigAll(l); bigCount(got).Cmp(want) != 0 {
			t.Errorf("Count(%v) = %v, want %d", l, got, want)
		}
	})
}

func TestP6_2(t *testing.T) {
	for _, c := range []struct {
		l           api.Ranges
		first, last uint64
		ok          bool
	}{
		{nil, 0, 0, false},
		{api.Ranges{}, 0, 0, false},
		{api.Ranges{iv(0, 0)}, 0, 0, true},
		{api.Ranges{iv(7, 7)}, 7, 7, true},
		{api.Ranges{iv(greatest, greatest)}, greatest, greatest, true},
		{api.Ranges{iv(3, 8)}, 3, 8, true},
		{api.Ranges{iv(2, 3), iv(9, 9)}, 2, 9, true},
		{api.Ranges{iv(2, 2), iv(4, 6), iv(8, 11)}, 2, 11, true},
		{api.Ranges{iv(0, 0), iv(greatest, greatest)}, 0, greatest, true},
		{api.Ranges{iv(1, 4), iv(6, greatest-1)}, 1, greatest - 1, true},
		{all, 0, greatest, true},
	} {
		if got, ok := measure.First(c.l); got != c.first || ok != c.ok {
			t.Errorf("First(%v) = %d, %t, want %d, %t", c.l, got, ok, c.first, c.ok)
		}
		if got, ok := measure.Last(c.l); got != c.last || ok != c.ok {
			t.Errorf("Last(%v) = %d, %t, want %d, %t", c.l, got, ok, c.last, c.ok)
		}
		if got, ok := measure.Hull(c.l); got != iv(c.first, c.last) || ok != c.ok {
			t.Errorf("Hull(%v) = %v, %t, want %d to %d, %t", c.l, got, ok, c.first, c.last, c.ok)
		}
	}
}

func TestP6_2AllSets(t *testing.T) {
	sets(func(l api.Ranges) {
		first, okFirst := measure.First(l)
		last, okLast := measure.Last(l)
		hull, okHull := measure.Hull(l)
		some := len(l) > 0
		if okFirst != some || okLast != some || okHull != some || hull != iv(first, last) {
			t.Errorf("%v: first %d, %t; last %d, %t; hull %v, %t", l, first, okFirst, last, okLast, hull, okHull)
		}
		outside := api.Ranges{iv(first, last)}
		if some && (!holds(l, first) || !holds(l, last) || !setops.Subset(l, outside)) {
			t.Errorf("%v: first %d, last %d", l, first, last)
		}
	})
}

func TestP6_3Rank(t *testing.T) {
	some := api.Ranges{iv(2, 3), iv(9, 9), iv(11, 14)}
	for _, c := range []struct {
		l    api.Ranges
		x    uint64
		want uint64
	}{
		{nil, 0, 0}, {nil, 5, 0}, {nil, greatest, 0}, {api.Ranges{}, greatest, 0},
		{api.Ranges{iv(0, 0)}, 0, 0}, {api.Ranges{iv(0, 0)}, 1, 1}, {api.Ranges{iv(0, 0)}, greatest, 1},
		// Numbers of the list, between its intervals, in front of it and behind it.
		{some, 0, 0}, {some, 1, 0}, {some, 2, 0}, {some, 3, 1}, {some, 4, 2}, {some, 5, 2}, {some, 8, 2}, {some, 9, 2},
		{some, 10, 3}, {some, 11, 3}, {some, 12, 4}, {some, 14, 6}, {some, 15, 7}, {some, 1 << 63, 7}, {some, greatest, 7},
		{all, 0, 0}, {all, 1, 1}, {all, 1 << 63, 1 << 63}, {all, greatest - 1, greatest - 1}, {all, greatest, greatest},
		{api.Ranges{iv(greatest, greatest)}, greatest, 0}, {api.Ranges{iv(greatest, greatest)}, 0, 0},
		{api.Ranges{iv(0, greatest-1)}, greatest, greatest}, {api.Ranges{iv(1, greatest)}, greatest, greatest - 1},
		{api.Ranges{iv(0, 0), iv(greatest, greatest)}, greatest, 1},
		{api.Ranges{iv(0, 1<<63-1), iv(1<<63+1, greatest)}, 1 << 63, 1 << 63},
		{api.Ranges{iv(0, 1<<63-1), iv(1<<63+1, greatest)}, greatest, greatest - 1},
	} {
		if got := measure.Rank(c.l, c.x); got != few(c.want) {
			t.Errorf("Rank(%v, %d) = %v, want %d", c.l, c.x, got, c.want)
		}
	}
}

func TestP6_3RankInAllSets(t *testing.T) {
	sets(func(l api.Ranges) {
		for _, x := range around(l) {
			if got, want := measure.Rank(l, x), bigRank(l, bigOf(x)); bigCount(got).Cmp(want) != 0 {
				t.Errorf("Rank(%v, %d) = %v, want %d", l, x, got, want)
			}
		}
	})
}

func TestP6_3Nth(t *testing.T) {
	some := api.Ranges{iv(2, 3), iv(9, 9), iv(11, 14)}
	gap := api.Ranges{iv(0, 1<<63-1), iv(1<<63+1, greatest)}
	for _, c := range []struct {
		l       api.Ranges
		n, want uint64
		ok      bool
	}{
		{nil, 0, 0, false}, {nil, 1, 0, false}, {nil, greatest, 0, false}, {api.Ranges{}, 0, 0, false},
		{api.Ranges{iv(0, 0)}, 0, 0, true}, {api.Ranges{iv(0, 0)}, 1, 0, false}, {api.Ranges{iv(0, 0)}, greatest, 0, false},
		{some, 0, 2, true}, {some, 1, 3, true}, {some, 2, 9, true}, {some, 3, 11, true}, {some, 4, 12, true},
		{some, 6, 14, true}, {some, 7, 0, false}, {some, 8, 0, false}, {some, greatest, 0, false},
		{all, 0, 0, true}, {all, 1 << 63, 1 << 63, true}, {all, greatest - 1, greatest - 1, true}, {all, greatest, greatest, true},
		{api.Ranges{iv(greatest, greatest)}, 0, greatest, true}, {api.Ranges{iv(greatest, greatest)}, 1, 0, false},
		{api.Ranges{iv(0, greatest-1)}, greatest - 1, greatest - 1, true}, {api.Ranges{iv(0, greatest-1)}, greatest, 0, false},
		{api.Ranges{iv(1, greatest)}, greatest - 1, greatest, true}, {api.Ranges{iv(1, greatest)}, greatest, 0, false},
		{api.Ranges{iv(0, 0), iv(greatest, greatest)}, 1, greatest, true},
		{gap, 1<<63 - 1, 1<<63 - 1, true}, {gap, 1 << 63, 1<<63 + 1, true}, {gap, greatest - 1, greatest, true}, {gap, greatest, 0, false},
	} {
		if got, ok := measure.Nth(c.l, c.n); got != c.want || ok != c.ok {
			t.Errorf("Nth(%v, %d) = %d, %t, want %d, %t", c.l, c.n, got, ok, c.want, c.ok)
		}
	}
}

// ranksOf are ranks of numbers around the ends of intervals, and some others around the count of a list.
func ranksOf(l api.Ranges) []uint64 {
	r := []uint64{0, 1, 2, 3, 1<<63 - 1, 1 << 63, greatest - 1, greatest}
	for _, x := range around(l) {
		rank := bigRank(l, bigOf(x)).Uint64()
		r = append(r, rank, rank+1)
	}
	slices.Sort(r)
	return slices.Compact(r)
}

func TestP6_3NthInAllSets(t *testing.T) {
	sets(func(l api.Ranges) {
		count := bigAll(l)
		for _, n := range ranksOf(l) {
			x, ok := measure.Nth(l, n)
			if ok != (bigOf(n).Cmp(count) < 0) {
				t.Errorf("Nth(%v, %d) = %d, %t", l, n, x, ok)
			}
			if !ok && x != 0 {
				t.Errorf("Nth(%v, %d) = %d without a number", l, n, x)
			}
			if ok && (!holds(l, x) || bigRank(l, bigOf(x)).Cmp(bigOf(n)) != 0) {
				t.Errorf("Nth(%v, %d) = %d, which has another rank", l, n, x)
			}
		}
	})
}

// Each number of short lists, counted one by one.
func TestP6_3EachNumber(t *testing.T) {
	for _, cells := range lines()[:3] {
		for set := range uint(1) << len(cells) {
			l := cells.list(set)
			numbers := numbersOf(l)
			for n, want := range numbers {
				if x, ok := measure.Nth(l, uint64(n)); x != want || !ok {
					t.Errorf("Nth(%v, %d) = %d, %t, want %d", l, n, x, ok, want)
				}
				if rank := measure.Rank(l, want); rank != few(uint64(n)) {
					t.Errorf("Rank(%v, %d) = %v, want %d", l, want, rank, n)
				}
			}
			if x, ok := measure.Nth(l, uint64(len(numbers))); x != 0 || ok {
				t.Errorf("Nth(%v, %d) = %d, %t", l, len(numbers), x, ok)
			}
		}
	}
}

// checkSplit checks that both parts of a list are correct, and that they are the ones that are wanted.
func checkSplit(t *testing.T, l api.Ranges, n uint64, low, high api.Ranges) {
	t.Helper()
	gotLow, gotHigh := measure.Split(l, n)
	if ranges.Check(gotLow) != nil || ranges.Check(gotHigh) != nil {
		t.Errorf("Split(%v, %d) = %v and %v, which are not correct", l, n, gotLow, gotHigh)
	}
	if !slices.Equal(gotLow, low) || !slices.Equal(gotHigh, high) {
		t.Errorf("Split(%v, %d) = %v and %v, want %v and %v", l, n, gotLow, gotHigh, low, high)
	}
}

func TestP6_4Split(t *testing.T) {
	some := api.Ranges{iv(2, 3), iv(9, 9), iv(11, 14)}
	last := api.Ranges{iv(greatest, greatest)}
	for _, c := range []struct {
		l         api.Ranges
		n         uint64
		low, high api.Ranges
	}{
		{nil, 0, nil, nil}, {nil, 1, nil, nil}, {nil, greatest, nil, nil}, {api.Ranges{}, 0, nil, nil},
		{api.Ranges{iv(0, 0)}, 0, nil, api.Ranges{iv(0, 0)}},
		{api.Ranges{iv(0, 0)}, 1, api.Ranges{iv(0, 0)}, nil},
		{api.Ranges{iv(0, 0)}, greatest, api.Ranges{iv(0, 0)}, nil},
		// Between two intervals nothing is cut.
		{some, 0, nil, some},
		{some, 1, api.Ranges{iv(2, 2)}, api.Ranges{iv(3, 3), iv(9, 9), iv(11, 14)}},
		{some, 2, api.Ranges{iv(2, 3)}, api.Ranges{iv(9, 9), iv(11, 14)}},
		{some, 3, api.Ranges{iv(2, 3), iv(9, 9)}, api.Ranges{iv(11, 14)}},
		{some, 4, api.Ranges{iv(2, 3), iv(9, 9), iv(11, 11)}, api.Ranges{iv(12, 14)}},
		{some, 6, api.Ranges{iv(2, 3), iv(9, 9), iv(11, 13)}, api.Ranges{iv(14, 14)}},
		{some, 7, some, nil}, {some, 8, some, nil}, {some, greatest, some, nil},
		{all, 0, nil, all},
		{all, 1, api.Ranges{iv(0, 0)}, api.Ranges{iv(1, greatest)}},
		{all, 1 << 63, api.Ranges{iv(0, 1<<63-1)}, api.Ranges{iv(1<<63, greatest)}},
		{all, greatest, api.Ranges{iv(0, greatest-1)}, last},
		{last, 0, nil, last}, {last, 1, last, nil}, {last, greatest, last, nil},
		{api.Ranges{iv(0, greatest-1)}, greatest, api.Ranges{iv(0, greatest-1)}, nil},
		{api.Ranges{iv(1, greatest)}, greatest - 1, api.Ranges{iv(1, greatest-1)}, last},
		{api.Ranges{iv(0, 0), iv(greatest, greatest)}, 1, api.Ranges{iv(0, 0)}, last},
		{api.Ranges{iv(0, 1<<63-1), iv(1<<63+1, greatest)}, 1 << 63, api.Ranges{iv(0, 1<<63-1)}, api.Ranges{iv(1<<63+1, greatest)}},
	} {
		checkSplit(t, c.l, c.n, c.low, c.high)
	}
}

func TestP6_4SplitOfAllSets(t *testing.T) {
	sets(func(l api.Ranges) {
		count := bigAll(l)
		for _, n := range ranksOf(l) {
			if bigOf(n).Cmp(count) >= 0 {
				checkSplit(t, l, n, l, nil)
				continue
			}
			low, high := measure.Split(l, n)
			first, ok := measure.First(high)
			if !ok || !holds(l, first) || bigRank(l, bigOf(first)).Cmp(bigOf(n)) != 0 {
				t.Errorf("Split(%v, %d) = %v and %v", l, n, low, high)
				continue
			}
			checkSplit(t, l, n, setops.Minus(l, api.Ranges{iv(first, greatest)}), setops.Meet(l, api.Ranges{iv(first, greatest)}))
		}
	})
}

func TestP6_5(t *testing.T) {
	sets(func(l api.Ranges) {
		for _, n := range ranksOf(l) {
			if x, ok := measure.Nth(l, n); ok && measure.Rank(l, x) != few(n) {
				t.Errorf("Rank(%v, Nth(%d)) = %v", l, n, measure.Rank(l, x))
			}
			low, high := measure.Split(l, n)
			if sum := word.Plus(measure.Count(low), measure.Count(high)); sum != measure.Count(l) {
				t.Errorf("both parts of Split(%v, %d) have %v numbers", l, n, sum)
			}
			if !slices.Equal(setops.Union(low, high), l) || !setops.Disjoint(low, high) {
				t.Errorf("Split(%v, %d) = %v and %v", l, n, low, high)
			}
		}
		for _, x := range around(l) {
			if !holds(l, x) {
				continue
			}
			if back, ok := measure.Nth(l, measure.Rank(l, x).Low); back != x || !ok {
				t.Errorf("Nth(%v, Rank(%d)) = %d, %t", l, x, back, ok)
			}
		}
	})
}

// Each number of long lists, counted one by one.
func TestP6_3LongLists(t *testing.T) {
	random := rand.New(rand.NewSource(6))
	for range 20 {
		var l api.Ranges
		next := uint64(random.Intn(5))
		for range 300 {
			hi := next + uint64(random.Intn(4))
			l = append(l, iv(next, hi))
			next = hi + 2 + uint64(random.Intn(4))
		}
		numbers := numbersOf(l)
		if got := measure.Count(l); got != few(uint64(len(numbers))) {
			t.Errorf("Count = %v, want %d", got, len(numbers))
		}
		for n, want := range numbers {
			if x, ok := measure.Nth(l, uint64(n)); x != want || !ok {
				t.Errorf("Nth(%d) = %d, %t, want %d", n, x, ok, want)
			}
			if rank := measure.Rank(l, want); rank != few(uint64(n)) {
				t.Errorf("Rank(%d) = %v, want %d", want, rank, n)
			}
			low, high := measure.Split(l, uint64(n))
			if !slices.Equal(numbersOf(low), numbers[:n]) || !slices.Equal(numbersOf(high), numbers[n:]) {
				t.Errorf("Split at %d has other numbers", n)
			}
		}
		if got := measure.Rank(l, next); got != few(uint64(len(numbers))) {
			t.Errorf("Rank behind the end = %v, want %d", got, len(numbers))
		}
	}
}

func TestExampleOfTheChapter(t *testing.T) {
	l := api.Ranges{iv(2, 3), iv(9, 9)}
	if rank := measure.Rank(l, 9); rank != few(2) {
		t.Errorf("the rank of 9 is %v", rank)
	}
	if x, ok := measure.Nth(l, 1); x != 3 || !ok {
		t.Errorf("the number with the rank 1 is %d, %t", x, ok)
	}
}

// All numbers are more than a number can tell.
func TestP6_1TextOfAll(t *testing.T) {
	if got := word.Text(measure.Count(all)); got != "18446744073709551616" {
		t.Errorf("there are %s numbers", got)
	}
}

// P1: no argument makes a function panic or run on, not even a list that is not correct.
func TestP1AllLists(t *testing.T) {
	numbers := []uint64{0, 1, 2, greatest - 1, greatest}
	lists := []api.Ranges{nil, {}}
	for _, a := range numbers {
		for _, b := range numbers {
			lists = append(lists, api.Ranges{iv(a, b)})
			for _, c := range numbers {
				for _, d := range numbers {
					lists = append(lists, api.Ranges{iv(a, b), iv(c, d)}, api.Ranges{iv(a, b), iv(c, d), iv(0, greatest)})
				}
			}
		}
	}
	for _, l := range lists {
		measure.Count(l)
		measure.First(l)
		measure.Last(l)
		measure.Hull(l)
		for _, x := range numbers {
			measure.Rank(l, x)
			measure.Nth(l, x)
			measure.Split(l, x)
		}
	}
}

// Rule 4: no argument is changed, nothing behind its end is read or changed, and no result shares memory with it.
func TestArgumentsStay(t *testing.T) {
	memory := api.Ranges{iv(0, 4), iv(6, 6), iv(9, 12), iv(20, 29), iv(31, greatest)}
	before := slices.Clone(memory)
	for size := range len(memory) + 1 {
		l, alone := memory[:size], slices.Clip(slices.Clone(memory[:size]))
		if measure.Count(l) != measure.Count(alone) || measure.Rank(l, greatest) != measure.Rank(alone, greatest) {
			t.Errorf("what is behind the end of %v is counted", l)
		}
		if hull, ok := measure.Hull(l); ok && hull != iv(memory[0].Lo, memory[size-1].Hi) {
			t.Errorf("the hull of %v is %v", l, hull)
		}
		for n := range uint64(22) {
			wantLow, wantHigh := measure.Split(alone, n)
			low, high := measure.Split(l, n)
			if !slices.Equal(low, wantLow) || !slices.Equal(high, wantHigh) {
				t.Errorf("Split(%v, %d) = %v and %v, want %v and %v", l, n, low, high, wantLow, wantHigh)
			}
			for _, got := range []api.Ranges{low, high} {
				whole := got[:cap(got)]
				for i := range whole {
					whole[i] = iv(77, 77)
				}
			}
			if !slices.Equal(memory, before) {
				t.Fatalf("Split at %d, or a change of its results, makes %v of its argument", n, memory)
			}
		}
	}
}

// Rule 4: a result stays as it is when the argument or another result changes.
func TestP2Independent(t *testing.T) {
	for n := range uint64(10) {
		l := api.Ranges{iv(1, 3), iv(5, 5), iv(8, 10)}
		low, high := measure.Split(l, n)
		wantLow, wantHigh := slices.Clone(low), slices.Clone(high)
		other, _ := measure.Split(l, n)
		for i := range l {
			l[i] = iv(77, 77)
		}
		clear(other[:cap(other)])
		if !slices.Equal(low, wantLow) || !slices.Equal(high, wantHigh) {
			t.Errorf("the results are now %v and %v, not %v and %v", low, high, wantLow, wantHigh)
		}
		clear(low[:cap(low)])
		_ = append(low[:0], iv(99, 99))
		if !slices.Equal(high, wantHigh) {
			t.Errorf("a change of the lower part makes the other one %v", high)
		}
	}
}

// Rule 6: the functions may be called concurrently, also with the same list.
func TestConcurrent(t *testing.T) {
	l := api.Ranges{iv(2, 3), iv(9, 9), iv(11, 14)}
	var wait sync.WaitGroup
	for i := range 8 {
		wait.Go(func() {
			low, high := measure.Split(l, 3)
			x, ok := measure.Nth(l, 2)
			if ranges.Text(low) != "2-3,9" || ranges.Text(high) != "11-14" || x != 9 || !ok || measure.Rank(l, 12) != few(4) || measure.Count(l) != few(7) {
				t.Errorf("goroutine %d: %v, %v, %d, %t", i, low, high, x, ok)
			}
		})
	}
	wait.Wait()
}
