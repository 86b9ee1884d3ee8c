package span_test

import (
	"math"
	"math/big"
	"slices"
	"sync"
	"testing"

	"kenning/api"
	"kenning/fault"
	"kenning/span"
)

const greatest = math.MaxUint64

// numbers are the ones at the ends of all numbers and of ranges of bits, and some between them.
var numbers = []uint64{
	0, 1, 2, 3, 7, 8, 1<<32 - 1, 1 << 32, 1<<63 - 2, 1<<63 - 1, 1 << 63, 1<<63 + 1,
	greatest - 8, greatest - 7, greatest - 2, greatest - 1, greatest,
}

// edge is how many cells of one number are at each end of all numbers.
const edge = 5

// cells divide all numbers, in ascending order. Only the one in the middle has more
// than one number, so intervals of whole cells are related as their lists of cells are.
func cells() []api.Interval {
	var l []api.Interval
	for x := range uint64(edge) {
		l = append(l, iv(x, x))
	}
	l = append(l, iv(edge, greatest-edge))
	for x := range uint64(edge) {
		l = append(l, iv(greatest-edge+1+x, greatest-edge+1+x))
	}
	return l
}

// block is an interval, and a flag for each cell that tells whether it is in the interval.
type block struct {
	api.Interval
	in [2*edge + 1]bool
}

// blocks are all intervals of whole cells.
func blocks() []block {
	var l []block
	all := cells()
	for first := range all {
		for last := first; last < len(all); last++ {
			b := block{Interval: iv(all[first].Lo, all[last].Hi)}
			for i := first; i <= last; i++ {
				b.in[i] = true
			}
			l = append(l, b)
		}
	}
	return l
}

// runs returns the intervals of the cells that have a flag.
func runs(in [2*edge + 1]bool) []api.Interval {
	var l []api.Interval
	all := cells()
	for i, ok := range in {
		switch {
		case ok && i > 0 && in[i-1]:
			l[len(l)-1].Hi = all[i].Hi
		case ok:
			l = append(l, all[i])
		}
	}
	return l
}

// combine returns the intervals of the cells for which a function of both memberships holds.
func combine(a, b block, holds func(inA, inB bool) bool) []api.Interval {
	var in [2*edge + 1]bool
	for i := range in {
		in[i] = holds(a.in[i], b.in[i])
	}
	return runs(in)
}

func and(inA, inB bool) bool  { return inA && inB }
func or(inA, inB bool) bool   { return inA || inB }
func less(inA, inB bool) bool { return inA && !inB }

func iv(lo, hi uint64) api.Interval { return api.Interval{Lo: lo, Hi: hi} }

// one returns the only interval of a list, or a zero Interval and false if there is not exactly one.
func one(l []api.Interval) (api.Interval, bool) {
	if len(l) != 1 {
		return api.Interval{}, false
	}
	return l[0], true
}

// checkError checks the code of an error, and that it has no offset and no api.Fault.
func checkError(t *testing.T, name string, err error, code api.Errno) {
	t.Helper()
	if err == nil {
		t.Errorf("%s: no error, want the code %d", name, code)
		return
	}
	if fault.Code(err) != code || fault.At(err) != -1 {
		t.Errorf("%s: the code %d and the offset %d, want the code %d and no offset", name, fault.Code(err), fault.At(err), code)
	}
	if moved := fault.Shift(err, 9); fault.At(moved) != -1 {
		t.Errorf("%s: the error has an offset that can be moved", name)
	}
}

func TestConstants(t *testing.T) {
	for want, got := range []int{span.Before, span.Touching, span.Meeting, span.Touched, span.Behind} {
		if got != want {
			t.Errorf("the constant %d is %d", want, got)
		}
	}
}

func TestP3_1Check(t *testing.T) {
	for _, s := range []api.Interval{
		iv(0, 0), iv(7, 7), iv(greatest, greatest), iv(0, greatest), iv(0, 1), iv(3, 9),
		iv(greatest-1, greatest), iv(1<<63-1, 1<<63),
	} {
		if err := span.Check(s); err != nil {
			t.Errorf("Check(%v) = %v", s, err)
		}
	}
	for _, s := range []api.Interval{
		iv(1, 0), iv(9, 3), iv(greatest, 0), iv(greatest, greatest-1), iv(1<<63, 1<<63-1),
	} {
		checkError(t, "Check", span.Check(s), api.ErrInverted)
	}
}

func TestP3_1CheckOfAllPairs(t *testing.T) {
	for _, lo := range numbers {
		for _, hi := range numbers {
			err := span.Check(iv(lo, hi))
			if lo <= hi && err != nil {
				t.Errorf("Check(%d, %d) = %v", lo, hi, err)
			}
			if lo > hi {
				checkError(t, "Check", err, api.ErrInverted)
			}
		}
	}
}

func TestP3_1Has(t *testing.T) {
	for _, c := range []struct {
		s    api.Interval
		x    uint64
		want bool
	}{
		{iv(3, 9), 2, false}, {iv(3, 9), 3, true}, {iv(3, 9), 5, true}, {iv(3, 9), 9, true}, {iv(3, 9), 10, false},
		{iv(3, 9), 0, false}, {iv(3, 9), greatest, false},
		{iv(7, 7), 6, false}, {iv(7, 7), 7, true}, {iv(7, 7), 8, false},
		{iv(0, 0), 0, true}, {iv(0, 0), 1, false}, {iv(0, 0), greatest, false},
		{iv(greatest, greatest), greatest, true}, {iv(greatest, greatest), greatest - 1, false}, {iv(greatest, greatest), 0, false},
		{iv(0, greatest), 0, true}, {iv(0, greatest), 1 << 63, true}, {iv(0, greatest), greatest, true},
		{iv(1, greatest-1), 0, false}, {iv(1, greatest-1), 1, true}, {iv(1, greatest-1), greatest - 1, true},
		{iv(1, greatest-1), greatest, false},
	} {
		if got := span.Has(c.s, c.x); got != c.want {
			t.Errorf("Has(%v, %d) = %t", c.s, c.x, got)
		}
	}
}

func TestP3_1HasOfAllBlocks(t *testing.T) {
	for _, b := range blocks() {
		for i, cell := range cells() {
			for _, x := range []uint64{cell.Lo, cell.Hi} {
				if got := span.Has(b.Interval, x); got != b.in[i] {
					t.Errorf("Has(%v, %d) = %t", b.Interval, x, got)
				}
			}
		}
	}
}

func TestP3_2Relate(t *testing.T) {
	for _, c := range []struct {
		a, b api.Interval
		want int
	}{
		{iv(1, 3), iv(5, 9), span.Before},
		{iv(1, 3), iv(8, 8), span.Before},
		{iv(0, 0), iv(2, 2), span.Before},
		{iv(0, 0), iv(greatest, greatest), span.Before},
		{iv(greatest-2, greatest-2), iv(greatest, greatest), span.Before},
		{iv(0, 1<<63-2), iv(1<<63, greatest), span.Before},
		{iv(1, 4), iv(5, 9), span.Touching},
		{iv(0, 0), iv(1, 1), span.Touching},
		{iv(0, 0), iv(1, greatest), span.Touching},
		{iv(0, greatest-1), iv(greatest, greatest), span.Touching},
		{iv(0, 1<<63-1), iv(1<<63, greatest), span.Touching},
		{iv(1, 5), iv(5, 9), span.Meeting},
		{iv(1, 6), iv(5, 9), span.Meeting},
		{iv(1, 9), iv(3, 5), span.Meeting},
		{iv(3, 9), iv(3, 5), span.Meeting},
		{iv(1, 5), iv(3, 5), span.Meeting},
		{iv(4, 4), iv(4, 4), span.Meeting},
		{iv(0, 0), iv(0, 0), span.Meeting},
		{iv(greatest, greatest), iv(greatest, greatest), span.Meeting},
		{iv(0, greatest), iv(0, greatest), span.Meeting},
		{iv(0, greatest), iv(0, 0), span.Meeting},
		{iv(0, greatest), iv(greatest, greatest), span.Meeting},
		{iv(0, 1<<63), iv(1<<63, greatest), span.Meeting},
	} {
		if got := span.Relate(c.a, c.b); got != c.want {
			t.Errorf("Relate(%v, %v) = %d, want %d", c.a, c.b, got, c.want)
		}
		if got, want := span.Relate(c.b, c.a), span.Behind-c.want; got != want {
			t.Errorf("Relate(%v, %v) = %d, want %d", c.b, c.a, got, want)
		}
	}
}

// wanted finds the relation from the lists of cells.
func wanted(a, b block) int {
	both, all := combine(a, b, and), combine(a, b, or)
	switch {
	case len(both) > 0:
		return span.Meeting
	case len(all) == 1 && all[0].Lo == a.Lo:
		return span.Touching
	case len(all) == 1:
		return span.Touched
	case all[0].Lo == a.Lo:
		return span.Before
	}
	return span.Behind
}

func TestP3_2RelateOfAllBlocks(t *testing.T) {
	seen := map[int]int{}
	for _, a := range blocks() {
		for _, b := range blocks() {
			want := wanted(a, b)
			seen[want]++
			if got := span.Relate(a.Interval, b.Interval); got != want {
				t.Errorf("Relate(%v, %v) = %d, want %d", a.Interval, b.Interval, got, want)
			}
		}
	}
	if len(seen) != 5 || seen[span.Before] != seen[span.Behind] || seen[span.Touching] != seen[span.Touched] {
		t.Errorf("the relations are found %v times", seen)
	}
}

func TestP3_3Meet(t *testing.T) {
	for _, c := range []struct {
		a, b, want api.Interval
		ok         bool
	}{
		{iv(1, 6), iv(4, 9), iv(4, 6), true},
		{iv(1, 5), iv(5, 9), iv(5, 5), true},
		{iv(1, 9), iv(3, 5), iv(3, 5), true},
		{iv(3, 9), iv(3, 5), iv(3, 5), true},
		{iv(1, 5), iv(3, 5), iv(3, 5), true},
		{iv(2, 7), iv(2, 7), iv(2, 7), true},
		{iv(0, 0), iv(0, 0), iv(0, 0), true},
		{iv(greatest, greatest), iv(greatest, greatest), iv(greatest, greatest), true},
		{iv(0, greatest), iv(0, greatest), iv(0, greatest), true},
		{iv(0, greatest), iv(0, 0), iv(0, 0), true},
		{iv(0, greatest), iv(greatest, greatest), iv(greatest, greatest), true},
		{iv(0, 1<<63), iv(1<<63, greatest), iv(1<<63, 1<<63), true},
		{iv(1, 4), iv(5, 9), iv(0, 0), false},
		{iv(1, 3), iv(5, 9), iv(0, 0), false},
		{iv(0, 0), iv(1, greatest), iv(0, 0), false},
		{iv(0, greatest-1), iv(greatest, greatest), iv(0, 0), false},
		{iv(0, 0), iv(greatest, greatest), iv(0, 0), false},
	} {
		if got, ok := span.Meet(c.a, c.b); got != c.want || ok != c.ok {
			t.Errorf("Meet(%v, %v) = %v, %t, want %v, %t", c.a, c.b, got, ok, c.want, c.ok)
		}
		if got, ok := span.Meet(c.b, c.a); got != c.want || ok != c.ok {
			t.Errorf("Meet(%v, %v) = %v, %t, want %v, %t", c.b, c.a, got, ok, c.want, c.ok)
		}
	}
}

func TestP3_3Join(t *testing.T) {
	for _, c := range []struct {
		a, b, want api.Interval
		ok         bool
	}{
		{iv(1, 4), iv(5, 9), iv(1, 9), true},
		{iv(1, 6), iv(4, 9), iv(1, 9), true},
		{iv(1, 5), iv(5, 9), iv(1, 9), true},
		{iv(1, 9), iv(3, 5), iv(1, 9), true},
		{iv(3, 9), iv(3, 5), iv(3, 9), true},
		{iv(1, 5), iv(3, 5), iv(1, 5), true},
		{iv(2, 7), iv(2, 7), iv(2, 7), true},
		{iv(0, 0), iv(0, 0), iv(0, 0), true},
		{iv(0, 0), iv(1, 1), iv(0, 1), true},
		{iv(0, 0), iv(1, greatest), iv(0, greatest), true},
		{iv(0, greatest-1), iv(greatest, greatest), iv(0, greatest), true},
		{iv(greatest, greatest), iv(greatest, greatest), iv(greatest, greatest), true},
		{iv(0, greatest), iv(0, greatest), iv(0, greatest), true},
		{iv(0, greatest), iv(4, 4), iv(0, greatest), true},
		{iv(0, 1<<63-1), iv(1<<63, greatest), iv(0, greatest), true},
		{iv(1, 3), iv(5, 9), iv(0, 0), false},
		{iv(0, 0), iv(2, greatest), iv(0, 0), false},
		{iv(0, greatest-2), iv(greatest, greatest), iv(0, 0), false},
		{iv(0, 0), iv(greatest, greatest), iv(0, 0), false},
	} {
		if got, ok := span.Join(c.a, c.b); got != c.want || ok != c.ok {
			t.Errorf("Join(%v, %v) = %v, %t, want %v, %t", c.a, c.b, got, ok, c.want, c.ok)
		}
		if got, ok := span.Join(c.b, c.a); got != c.want || ok != c.ok {
			t.Errorf("Join(%v, %v) = %v, %t, want %v, %t", c.b, c.a, got, ok, c.want, c.ok)
		}
	}
}

func TestP3_3MeetAndJoinOfAllBlocks(t *testing.T) {
	for _, a := range blocks() {
		for _, b := range blocks() {
			want, wantOK := one(combine(a, b, and))
			if got, ok := span.Meet(a.Interval, b.Interval); got != want || ok != wantOK {
				t.Errorf("Meet(%v, %v) = %v, %t, want %v, %t", a.Interval, b.Interval, got, ok, want, wantOK)
			}
			want, wantOK = one(combine(a, b, or))
			if got, ok := span.Join(a.Interval, b.Interval); got != want || ok != wantOK {
				t.Errorf("Join(%v, %v) = %v, %t, want %v, %t", a.Interval, b.Interval, got, ok, want, wantOK)
			}
		}
	}
}

func TestP3_4Cut(t *testing.T) {
	for _, c := range []struct {
		a, b api.Interval
		want []api.Interval
	}{
		{iv(1, 9), iv(3, 5), []api.Interval{iv(1, 2), iv(6, 9)}},
		{iv(1, 9), iv(2, 8), []api.Interval{iv(1, 1), iv(9, 9)}},
		{iv(1, 9), iv(1, 5), []api.Interval{iv(6, 9)}},
		{iv(1, 9), iv(0, 8), []api.Interval{iv(9, 9)}},
		{iv(1, 9), iv(5, 9), []api.Interval{iv(1, 4)}},
		{iv(1, 9), iv(2, 12), []api.Interval{iv(1, 1)}},
		{iv(1, 9), iv(9, 12), []api.Interval{iv(1, 8)}},
		{iv(1, 9), iv(1, 9), nil},
		{iv(1, 9), iv(0, 10), nil},
		{iv(1, 9), iv(1, 10), nil},
		{iv(1, 9), iv(0, 9), nil},
		{iv(1, 9), iv(10, 12), []api.Interval{iv(1, 9)}},
		{iv(1, 9), iv(11, 12), []api.Interval{iv(1, 9)}},
		{iv(5, 9), iv(3, 4), []api.Interval{iv(5, 9)}},
		{iv(5, 9), iv(1, 3), []api.Interval{iv(5, 9)}},
		{iv(4, 4), iv(4, 4), nil},
		{iv(4, 4), iv(5, 5), []api.Interval{iv(4, 4)}},
		{iv(0, 0), iv(0, 0), nil},
		{iv(0, 0), iv(1, greatest), []api.Interval{iv(0, 0)}},
		{iv(0, 9), iv(0, 0), []api.Interval{iv(1, 9)}},
		{iv(0, 9), iv(9, 9), []api.Interval{iv(0, 8)}},
		{iv(1, 9), iv(0, 0), []api.Interval{iv(1, 9)}},
		{iv(greatest, greatest), iv(greatest, greatest), nil},
		{iv(greatest, greatest), iv(0, greatest-1), []api.Interval{iv(greatest, greatest)}},
		{iv(greatest-4, greatest), iv(greatest, greatest), []api.Interval{iv(greatest-4, greatest-1)}},
		{iv(greatest-4, greatest), iv(greatest-4, greatest-4), []api.Interval{iv(greatest-3, greatest)}},
		{iv(greatest-4, greatest-1), iv(greatest, greatest), []api.Interval{iv(greatest-4, greatest-1)}},
		{iv(0, greatest), iv(0, greatest), nil},
		{iv(3, 9), iv(0, greatest), nil},
		{iv(0, greatest), iv(0, 0), []api.Interval{iv(1, greatest)}},
		{iv(0, greatest), iv(greatest, greatest), []api.Interval{iv(0, greatest-1)}},
		{iv(0, greatest), iv(1<<63, 1<<63), []api.Interval{iv(0, 1<<63-1), iv(1<<63+1, greatest)}},
		{iv(0, greatest), iv(1, greatest-1), []api.Interval{iv(0, 0), iv(greatest, greatest)}},
		{iv(0, greatest), iv(1, greatest), []api.Interval{iv(0, 0)}},
		{iv(0, greatest), iv(0, greatest-1), []api.Interval{iv(greatest, greatest)}},
	} {
		if got := span.Cut(c.a, c.b); !slices.Equal(got, c.want) {
			t.Errorf("Cut(%v, %v) = %v, want %v", c.a, c.b, got, c.want)
		}
	}
}

func TestP3_4CutOfAllBlocks(t *testing.T) {
	seen := map[int]bool{}
	for _, a := range blocks() {
		for _, b := range blocks() {
			want := combine(a, b, less)
			seen[len(want)] = true
			if got := span.Cut(a.Interval, b.Interval); !slices.Equal(got, want) {
				t.Errorf("Cut(%v, %v) = %v, want %v", a.Interval, b.Interval, got, want)
			}
		}
	}
	if len(seen) != 3 || !seen[0] || !seen[1] || !seen[2] {
		t.Errorf("the cuts have %v intervals", seen)
	}
}

func TestP3_5Shift(t *testing.T) {
	for _, c := range []struct {
		last, gap, size uint64
		want            api.Interval
		ok              bool
	}{
		{4, 2, 1, iv(7, 8), true},
		{0, 0, 0, iv(1, 1), true},
		{4, 0, 0, iv(5, 5), true},
		{4, 0, 3, iv(5, 8), true},
		{4, 3, 0, iv(8, 8), true},
		{1 << 63, 5, 7, iv(1<<63+6, 1<<63+13), true},
		// Lo is the greatest number, or would be the one behind it.
		{greatest - 1, 0, 0, iv(greatest, greatest), true},
		{greatest, 0, 0, iv(0, 0), false},
		{greatest - 4, 3, 0, iv(greatest, greatest), true},
		{greatest - 4, 4, 0, iv(0, 0), false},
		{0, greatest - 1, 0, iv(greatest, greatest), true},
		{0, greatest, 0, iv(0, 0), false},
		{1, greatest - 1, 0, iv(0, 0), false},
		{1 << 63, 1<<63 - 2, 0, iv(greatest, greatest), true},
		{1 << 63, 1<<63 - 1, 0, iv(0, 0), false},
		{1 << 63, 1 << 63, 0, iv(0, 0), false},
		{greatest, greatest, 0, iv(0, 0), false},
		{greatest, greatest, greatest, iv(0, 0), false},
		{greatest, 0, greatest, iv(0, 0), false},
		// Hi is the greatest number, or would be the one behind it.
		{0, 0, greatest - 1, iv(1, greatest), true},
		{0, 0, greatest, iv(0, 0), false},
		{4, 2, greatest - 7, iv(7, greatest), true},
		{4, 2, greatest - 6, iv(0, 0), false},
		{greatest - 1, 0, 1, iv(0, 0), false},
		{greatest - 2, 0, 1, iv(greatest-1, greatest), true},
		{greatest - 2, 0, 2, iv(0, 0), false},
		{0, greatest - 1, 1, iv(0, 0), false},
		{greatest - 1, 0, greatest, iv(0, 0), false},
	} {
		got, err := span.Shift(c.last, c.gap, c.size)
		if got != c.want || (err == nil) != c.ok {
			t.Errorf("Shift(%d, %d, %d) = %v, %v, want %v, %t", c.last, c.gap, c.size, got, err, c.want, c.ok)
		}
		if !c.ok {
			checkError(t, "Shift", err, api.ErrRange)
		}
	}
}

func bigOf(x uint64) *big.Int { return new(big.Int).SetUint64(x) }

func TestP3_5ShiftOfAllNumbers(t *testing.T) {
	for _, last := range numbers {
		for _, gap := range numbers {
			for _, size := range numbers {
				lo := bigOf(last)
				lo.Add(lo, bigOf(gap)).Add(lo, bigOf(1))
				hi := new(big.Int).Add(lo, bigOf(size))
				var want api.Interval
				if hi.IsUint64() {
					want = iv(lo.Uint64(), hi.Uint64())
				}
				got, err := span.Shift(last, gap, size)
				if got != want || (err == nil) != hi.IsUint64() {
					t.Errorf("Shift(%d, %d, %d) = %v, %v, want %v", last, gap, size, got, err, want)
				}
				if !hi.IsUint64() {
					checkError(t, "Shift", err, api.ErrRange)
				}
			}
		}
	}
}

func TestExamplesOfTheChapter(t *testing.T) {
	a, b := iv(1, 4), iv(5, 9)
	if got := span.Relate(a, b); got != span.Touching {
		t.Errorf("the relation of %v and %v is %d", a, b, got)
	}
	if got, ok := span.Join(a, b); got != iv(1, 9) || !ok {
		t.Errorf("the join of %v and %v is %v, %t", a, b, got, ok)
	}
	if got, err := span.Shift(4, 2, 1); got != iv(7, 8) || err != nil {
		t.Errorf("Shift(4, 2, 1) = %v, %v", got, err)
	}
}

// P1: no argument makes a function panic, not even an interval that is not correct.
func TestP1AllNumbers(t *testing.T) {
	var all []api.Interval
	for _, lo := range numbers {
		for _, hi := range numbers {
			all = append(all, iv(lo, hi))
		}
	}
	for _, a := range all {
		_ = span.Check(a)
		span.Has(a, a.Lo)
		for _, b := range all {
			span.Relate(a, b)
			span.Meet(a, b)
			span.Join(a, b)
			span.Cut(a, b)
		}
	}
}

// P2 and rule 4: what is done with the result of a call changes no other one.
func TestP2Independent(t *testing.T) {
	a, b := iv(1, 9), iv(3, 5)
	first, second := span.Cut(a, b), span.Cut(a, b)
	clear(first)
	_ = append(first[:1], iv(20, 21))
	want := []api.Interval{iv(1, 2), iv(6, 9)}
	if !slices.Equal(second, want) {
		t.Errorf("a change of one cut makes another one %v", second)
	}
	if third := span.Cut(a, b); !slices.Equal(third, want) {
		t.Errorf("after a change of its result, Cut returns %v", third)
	}
}

// Rule 6: the functions may be called concurrently.
func TestConcurrent(t *testing.T) {
	var wait sync.WaitGroup
	for i := range uint64(8) {
		wait.Go(func() {
			a, b := iv(i, i+20), iv(i+5, i+9)
			if got := span.Cut(a, b); !slices.Equal(got, []api.Interval{iv(i, i+4), iv(i+10, i+20)}) {
				t.Errorf("goroutine %d: Cut = %v", i, got)
			}
			if got, err := span.Shift(i, i, i); got != iv(2*i+1, 3*i+1) || err != nil {
				t.Errorf("goroutine %d: Shift = %v, %v", i, got, err)
			}
		})
	}
	wait.Wait()
}
