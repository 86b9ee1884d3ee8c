package join_test

import (
	"math"
	"math/bits"
	"math/rand"
	"slices"
	"sync"
	"testing"

	"kenning/api"
	"kenning/entry"
	"kenning/join"
)

const greatest = math.MaxUint64

func iv(lo, hi uint64) api.Interval { return api.Interval{Lo: lo, Hi: hi} }

// of returns an entry of the replica 7.
func of(last uint64, holes ...api.Interval) api.Entry {
	return api.Entry{Replica: 7, Max: last, Holes: holes}
}

// operation is one of the three operations, and what it says of a counter.
type operation struct {
	name  string
	call  func(a, b api.Entry) (api.Entry, bool)
	takes func(inA, inB bool) bool
}

// operations are all three operations.
func operations() []operation {
	return []operation{
		{"Union", join.Union, func(inA, inB bool) bool { return inA || inB }},
		{"Meet", join.Meet, func(inA, inB bool) bool { return inA && inB }},
		{"Minus", join.Minus, func(inA, inB bool) bool { return inA && !inB }},
	}
}

// line is some cells in ascending order from 0 on, each one directly behind the one before it. A set of cells is a number with a bit for each.
type line []api.Interval

// small returns the line of the numbers up to one less than count.
func small(count uint64) line {
	var l line
	for x := range count {
		l = append(l, iv(x, x))
	}
	return l
}

// whole returns a line of all numbers: some cells of one number at both ends, and two halves of the numbers between them.
func whole() line {
	return line{
		iv(0, 0), iv(1, 1), iv(2, 1<<63-1), iv(1<<63, greatest-2),
		iv(greatest-1, greatest-1), iv(greatest, greatest),
	}
}

// list returns the list of a set: one interval for each run of cells.
func (l line) list(set uint) api.Ranges {
	var r api.Ranges
	for i, cell := range l {
		switch {
		case set>>i&1 == 0:
		case i > 0 && set>>(i-1)&1 == 1:
			r[len(r)-1].Hi = cell.Hi
		default:
			r = append(r, cell)
		}
	}
	return r
}

// up returns the set of the cells up to one.
func up(cell int) uint { return 1<<(cell+1) - 1 }

// correct is a correct entry with the set of the counters that are known by it.
type correct struct {
	api.Entry
	known uint
}

// entries returns all correct entries of a replica: for each cell at whose end is Max, those with all sets of holes.
func (l line) entries(replica uint64) []correct {
	var r []correct
	for last, cell := range l {
		for holes := range up(last) + 1 {
			e := api.Entry{Replica: replica, Max: cell.Hi, Holes: l.list(holes)}
			r = append(r, correct{e, up(last) &^ holes})
		}
	}
	return r
}

// canonical returns the canonical entry of a set, and whether it is not empty.
func (l line) canonical(replica uint64, set uint) (api.Entry, bool) {
	if set == 0 {
		return api.Entry{}, false
	}
	last := bits.Len(set) - 1
	return api.Entry{Replica: replica, Max: l[last].Hi, Holes: l.list(up(last) &^ set)}, true
}

// knows reports whether a counter is known by an entry, as the document says it.
func knows(e api.Entry, counter uint64) bool {
	inHole := slices.ContainsFunc(e.Holes, func(hole api.Interval) bool { return hole.Lo <= counter && counter <= hole.Hi })
	return counter <= e.Max && !inHole
}

// same compares two entries field by field.
func same(a, b api.Entry) bool {
	return a.Replica == b.Replica && a.Max == b.Max && slices.Equal(a.Holes, b.Holes)
}

// clone returns a copy of an entry.
func clone(e api.Entry) api.Entry {
	e.Holes = slices.Clone(e.Holes)
	return e
}

// checkCanonical checks that an entry is one that an operation may return: a canonical one of the replica together with true, or a zero one together with false.
func checkCanonical(t *testing.T, name string, replica uint64, got api.Entry, ok bool) {
	t.Helper()
	if ok && (!entry.Canonical(got) || got.Replica != replica) {
		t.Errorf("%s returns %v, which is not canonical, or of another replica than %d", name, got, replica)
	}
	if !ok && !same(got, api.Entry{}) {
		t.Errorf("%s returns %v together with false", name, got)
	}
}

// checkCall checks the result of an operation.
func checkCall(t *testing.T, o operation, a, b, want api.Entry, wantOK bool) {
	t.Helper()
	got, ok := o.call(a, b)
	checkCanonical(t, o.name, a.Replica, got, ok)
	if !same(got, want) || ok != wantOK {
		t.Errorf("%s(%v, %v) = %v, %t, want %v, %t", o.name, a, b, got, ok, want, wantOK)
	}
}

// pairing is two entries, and the results of the three operations; a nil result says that there is no counter.
type pairing struct {
	a, b               api.Entry
	union, meet, minus *api.Entry
}

// pairings are those of the ordinary cases and of the edges.
func pairings() []pairing {
	is := func(last uint64, holes ...api.Interval) *api.Entry {
		e := of(last, holes...)
		return &e
	}
	return []pairing{
		// Canonical entries.
		{of(5), of(3), is(5), is(3), is(5, iv(0, 3))},
		{of(3), of(5), is(5), is(3), nil},
		{of(5), of(5), is(5), is(5), nil},
		{of(5, iv(3, 4)), of(4, iv(1, 1)), is(5), is(2, iv(1, 1)), is(5, iv(0, 0), iv(2, 4))},
		{of(4, iv(1, 1)), of(5, iv(3, 4)), is(5), is(2, iv(1, 1)), is(4, iv(0, 2))},
		{of(9, iv(2, 3), iv(6, 6)), of(9, iv(3, 4), iv(6, 7)), is(9, iv(3, 3), iv(6, 6)), is(9, iv(2, 4), iv(6, 7)), is(7, iv(0, 3), iv(5, 6))},
		{of(9, iv(0, 1), iv(4, 4)), of(7, iv(0, 1), iv(4, 4)), is(9, iv(0, 1), iv(4, 4)), is(7, iv(0, 1), iv(4, 4)), is(9, iv(0, 7))},
		// The Max of one is below all that is known by the other one.
		{of(2), of(9, iv(0, 5)), is(9, iv(3, 5)), nil, is(2)},
		{of(9, iv(0, 5)), of(2), is(9, iv(3, 5)), nil, is(9, iv(0, 5))},
		{of(2), of(3, iv(0, 2)), is(3), nil, is(2)},
		{of(2, iv(1, 1)), of(9, iv(0, 5), iv(7, 7)), is(9, iv(1, 1), iv(3, 5), iv(7, 7)), nil, is(2, iv(1, 1))},
		// Entries that are not canonical: Max is in the last hole.
		{of(5, iv(4, 5)), of(9, iv(2, 2), iv(7, 9)), is(6), is(3, iv(2, 2)), is(2, iv(0, 1))},
		{of(9, iv(2, 2), iv(7, 9)), of(5, iv(4, 5)), is(6), is(3, iv(2, 2)), is(6, iv(0, 3))},
		{of(8, iv(1, 3), iv(8, 8)), of(8, iv(1, 3), iv(8, 8)), is(7, iv(1, 3)), is(7, iv(1, 3)), nil},
		{of(8, iv(5, 8)), of(4), is(4), is(4), nil},
		// Nothing is known by b, by a, and by both.
		{of(5, iv(1, 1)), of(6, iv(0, 6)), is(5, iv(1, 1)), nil, is(5, iv(1, 1))},
		{of(5, iv(4, 5)), of(0, iv(0, 0)), is(3), nil, is(3)},
		{of(0, iv(0, 0)), of(5, iv(1, 1)), is(5, iv(1, 1)), nil, nil},
		{of(6, iv(0, 6)), of(5, iv(4, 5)), is(3), nil, nil},
		{of(0, iv(0, 0)), of(6, iv(0, 6)), nil, nil, nil},
		{of(greatest, iv(0, greatest)), of(greatest, iv(0, greatest)), nil, nil, nil},
		// The Max 0 and the greatest one.
		{of(0), of(0), is(0), is(0), nil},
		{of(0), of(5), is(5), is(0), nil},
		{of(5), of(0), is(5), is(0), is(5, iv(0, 0))},
		{of(0), of(5, iv(0, 0)), is(5), nil, is(0)},
		{of(0), of(greatest), is(greatest), is(0), nil},
		{of(greatest), of(0), is(greatest), is(0), is(greatest, iv(0, 0))},
		{of(greatest), of(greatest), is(greatest), is(greatest), nil},
		{of(greatest), of(greatest - 1), is(greatest), is(greatest - 1), is(greatest, iv(0, greatest-1))},
		{of(greatest - 1), of(greatest, iv(0, greatest-1)), is(greatest), nil, is(greatest - 1)},
		{of(greatest), of(greatest, iv(greatest, greatest)), is(greatest), is(greatest - 1), is(greatest, iv(0, greatest-1))},
		{of(greatest, iv(0, greatest-1)), of(0), is(greatest, iv(1, greatest-1)), nil, is(greatest, iv(0, greatest-1))},
		{of(greatest, iv(1<<63, greatest)), of(greatest, iv(0, 1<<63-1)), is(greatest), nil, is(1<<63 - 1)},
	}
}

// checkPairing checks one result of a pairing.
func checkPairing(t *testing.T, o operation, c pairing, want *api.Entry) {
	t.Helper()
	if want == nil {
		checkCall(t, o, c.a, c.b, api.Entry{}, false)
		return
	}
	checkCall(t, o, c.a, c.b, *want, true)
}

func TestP8_1Union(t *testing.T) {
	for _, c := range pairings() {
		checkPairing(t, operations()[0], c, c.union)
	}
}

func TestP8_1Meet(t *testing.T) {
	for _, c := range pairings() {
		checkPairing(t, operations()[1], c, c.meet)
	}
}

func TestP8_1Minus(t *testing.T) {
	for _, c := range pairings() {
		checkPairing(t, operations()[2], c, c.minus)
	}
}

// The results are of the replica of both entries, and zero if there are none.
func TestP8_1Replicas(t *testing.T) {
	for _, replica := range []uint64{0, 1, 2, 1 << 63, greatest} {
		for _, o := range operations() {
			for _, c := range pairings() {
				a, b := c.a, c.b
				a.Replica, b.Replica = replica, replica
				want, ok := o.call(c.a, c.b)
				if ok {
					want.Replica = replica
				}
				checkCall(t, o, a, b, want, ok)
			}
		}
	}
}

// All pairs of entries of a small range, number by number.
func TestP8_1NumberByNumber(t *testing.T) {
	const end = 5
	all := small(end).entries(3)
	for _, o := range operations() {
		for _, a := range all {
			for _, b := range all {
				got, ok := o.call(a.Entry, b.Entry)
				checkCanonical(t, o.name, 3, got, ok)
				some := false
				for x := range uint64(end + 3) {
					want := o.takes(knows(a.Entry, x), knows(b.Entry, x))
					some = some || want
					if ok && knows(got, x) != want {
						t.Errorf("%s(%v, %v) = %v: %d is known: %t", o.name, a.Entry, b.Entry, got, x, !want)
					}
				}
				if ok != some {
					t.Errorf("%s(%v, %v) = %v, %t", o.name, a.Entry, b.Entry, got, ok)
				}
			}
		}
	}
}

// combine returns the set of the cells that an operation takes.
func (o operation) combine(a, b uint, cells int) uint {
	set := uint(0)
	for i := range cells {
		if o.takes(a>>i&1 == 1, b>>i&1 == 1) {
			set |= 1 << i
		}
	}
	return set
}

// All pairs of entries of a small range, and of cells of all numbers.
func TestP8_1AllPairs(t *testing.T) {
	for _, cells := range []line{small(5), whole()} {
		all := cells.entries(greatest)
		for _, o := range operations() {
			for _, a := range all {
				for _, b := range all {
					want, ok := cells.canonical(greatest, o.combine(a.known, b.known, len(cells)))
					checkCall(t, o, a.Entry, b.Entry, want, ok)
				}
			}
		}
	}
}

// ragged returns an entry with many holes, and the counters that are known by it, which are less than end.
func ragged(random *rand.Rand, end uint64) (api.Entry, []bool) {
	known := make([]bool, end)
	e := api.Entry{Replica: 9, Max: end - 1}
	for x := uint64(0); x < end; {
		hole := iv(x, min(x+uint64(random.Intn(4)), end-1))
		e.Holes = append(e.Holes, hole)
		for x = hole.Hi + 1; x < end; x++ {
			known[x] = true
			if random.Intn(3) == 0 {
				x++
				break
			}
		}
	}
	return e, known
}

// Entries with many holes.
func TestP8_1LongEntries(t *testing.T) {
	random := rand.New(rand.NewSource(8))
	for range 20 {
		a, knownA := ragged(random, 900)
		b, knownB := ragged(random, 1000)
		knownA = append(knownA, make([]bool, 100)...)
		if err := entry.Check(a); err != nil || len(a.Holes) < 100 {
			t.Fatalf("%v: %v", a, err)
		}
		for _, o := range operations() {
			got, ok := o.call(a, b)
			checkCanonical(t, o.name, 9, got, ok)
			for x := range knownB {
				if want := o.takes(knownA[x], knownB[x]); knows(got, uint64(x)) != want {
					t.Errorf("%s of long entries: %d is known: %t", o.name, x, !want)
				}
			}
			if got.Max >= 1000 {
				t.Errorf("%s of long entries has the Max %d", o.name, got.Max)
			}
		}
	}
}

func TestP8_2Subset(t *testing.T) {
	for _, c := range []struct {
		a, b        api.Entry
		forth, back bool
	}{
		// An entry and itself.
		{of(0), of(0), true, true},
		{of(5), of(5), true, true},
		{of(5, iv(1, 2)), of(5, iv(1, 2)), true, true},
		{of(greatest), of(greatest), true, true},
		// One direction, the other one, and none.
		{of(3), of(5), true, false},
		{of(0), of(greatest), true, false},
		{of(greatest - 1), of(greatest), true, false},
		{of(5, iv(1, 2)), of(5), true, false},
		{of(5, iv(1, 3)), of(5, iv(2, 2)), true, false},
		{of(5, iv(1, 3)), of(5, iv(1, 2)), true, false},
		{of(5, iv(1, 3)), of(5, iv(2, 3)), true, false},
		{of(9, iv(0, 3), iv(5, 8)), of(9, iv(1, 2), iv(6, 7)), true, false},
		{of(5, iv(1, 2)), of(5, iv(2, 3)), false, false},
		{of(5, iv(0, 0)), of(4), false, false},
		{of(5), of(9, iv(2, 2)), false, false},
		{of(5), of(9, iv(5, 5)), false, false},
		{of(2), of(9, iv(0, 5)), false, false},
		{of(greatest, iv(0, greatest-1)), of(greatest - 1), false, false},
		{of(greatest, iv(0, greatest-1)), of(greatest, iv(1, greatest-1)), true, false},
		// Holes of b that have no counter of a.
		{of(3), of(9, iv(4, 6)), true, false},
		{of(5, iv(2, 3)), of(9, iv(2, 3), iv(6, 8)), true, false},
		// Entries that are not canonical.
		{of(5, iv(4, 5)), of(3), true, true},
		{of(5, iv(4, 5)), of(greatest, iv(4, greatest)), true, true},
		{of(5, iv(4, 5)), of(9, iv(5, 9)), true, false},
		{of(9, iv(1, 1), iv(3, 9)), of(2, iv(1, 1)), true, true},
		// Nothing is known by one, or by both.
		{of(0, iv(0, 0)), of(0), true, false},
		{of(6, iv(0, 6)), of(0), true, false},
		{of(6, iv(0, 6)), of(9, iv(0, 5)), true, false},
		{of(greatest, iv(0, greatest)), of(greatest, iv(0, greatest-1)), true, false},
		{of(0, iv(0, 0)), of(0, iv(0, 0)), true, true},
		{of(0, iv(0, 0)), of(6, iv(0, 6)), true, true},
		{of(greatest, iv(0, greatest)), of(0, iv(0, 0)), true, true},
	} {
		if got := join.Subset(c.a, c.b); got != c.forth {
			t.Errorf("Subset(%v, %v) = %t", c.a, c.b, got)
		}
		if got := join.Subset(c.b, c.a); got != c.back {
			t.Errorf("Subset(%v, %v) = %t", c.b, c.a, got)
		}
	}
}

func TestP8_2AllPairs(t *testing.T) {
	for _, cells := range []line{small(5), whole()} {
		all := cells.entries(7)
		for _, a := range all {
			for _, b := range all {
				want := a.known&^b.known == 0
				if got := join.Subset(a.Entry, b.Entry); got != want {
					t.Errorf("Subset(%v, %v) = %t", a.Entry, b.Entry, got)
				}
			}
		}
	}
}

// A difference in one counter of many.
func TestP8_2LongEntries(t *testing.T) {
	random := rand.New(rand.NewSource(82))
	e, known := ragged(random, 600)
	for x := range known {
		more := join.Add(e, uint64(x))
		if !join.Subset(e, more) || join.Subset(more, e) != known[x] {
			t.Errorf("with %d, which is known: %t, Subset = %t and %t", x, known[x], join.Subset(e, more), join.Subset(more, e))
		}
	}
}

// checkAdd checks the result of Add.
func checkAdd(t *testing.T, e api.Entry, counter uint64, want api.Entry) {
	t.Helper()
	got := join.Add(e, counter)
	checkCanonical(t, "Add", e.Replica, got, true)
	if !same(got, want) {
		t.Errorf("Add(%v, %d) = %v, want %v", e, counter, got, want)
	}
}

func TestP8_3Add(t *testing.T) {
	holes := of(9, iv(2, 2), iv(4, 7))
	for _, c := range []struct {
		e       api.Entry
		counter uint64
		want    api.Entry
	}{
		// Counters that are known already.
		{of(5), 0, of(5)},
		{of(5), 3, of(5)},
		{of(5), 5, of(5)},
		{of(0), 0, of(0)},
		{of(greatest), greatest, of(greatest)},
		{holes, 3, holes},
		{holes, 9, holes},
		// In a hole: its only number, between others, and at its edges.
		{holes, 2, of(9, iv(4, 7))},
		{holes, 5, of(9, iv(2, 2), iv(4, 4), iv(6, 7))},
		{holes, 4, of(9, iv(2, 2), iv(5, 7))},
		{holes, 7, of(9, iv(2, 2), iv(4, 6))},
		{of(9, iv(0, 4)), 0, of(9, iv(1, 4))},
		{of(9, iv(0, 0)), 0, of(9)},
		// Behind Max: directly, with one number between them, and far.
		{of(5), 6, of(6)},
		{of(5), 7, of(7, iv(6, 6))},
		{of(2), 5, of(5, iv(3, 4))},
		{of(0), 1, of(1)},
		{of(0), 2, of(2, iv(1, 1))},
		{holes, 10, of(10, iv(2, 2), iv(4, 7))},
		{holes, 100, of(100, iv(2, 2), iv(4, 7), iv(10, 99))},
		{of(5), 1 << 63, of(1<<63, iv(6, 1<<63-1))},
		// The greatest counter.
		{of(5), greatest, of(greatest, iv(6, greatest-1))},
		{of(greatest - 1), greatest, of(greatest)},
		{of(greatest - 2), greatest, of(greatest, iv(greatest-1, greatest-1))},
		{of(greatest, iv(1, 1)), greatest, of(greatest, iv(1, 1))},
		{of(greatest, iv(0, greatest-1)), 0, of(greatest, iv(1, greatest-1))},
		{of(greatest, iv(0, greatest-1)), greatest - 1, of(greatest, iv(0, greatest-2))},
		// Max is in the last hole, and the counter is below it, in it, at its edges, and behind it.
		{of(9, iv(6, 9)), 3, of(5)},
		{of(9, iv(6, 9)), 6, of(6)},
		{of(9, iv(6, 9)), 7, of(7, iv(6, 6))},
		{of(9, iv(6, 9)), 9, of(9, iv(6, 8))},
		{of(9, iv(6, 9)), 10, of(10, iv(6, 9))},
		{of(9, iv(6, 9)), 12, of(12, iv(6, 11))},
		{of(9, iv(2, 2), iv(9, 9)), 9, of(9, iv(2, 2))},
		{of(9, iv(2, 2), iv(9, 9)), 2, of(8)},
		{of(greatest, iv(6, greatest)), 6, of(6)},
		{of(greatest, iv(6, greatest)), greatest, of(greatest, iv(6, greatest-1))},
		{of(greatest, iv(greatest, greatest)), greatest, of(greatest)},
		{of(greatest, iv(greatest, greatest)), 5, of(greatest - 1)},
		// Nothing is known.
		{of(0, iv(0, 0)), 0, of(0)},
		{of(0, iv(0, 0)), 1, of(1, iv(0, 0))},
		{of(0, iv(0, 0)), 5, of(5, iv(0, 4))},
		{of(0, iv(0, 0)), greatest, of(greatest, iv(0, greatest-1))},
		{of(6, iv(0, 6)), 0, of(0)},
		{of(6, iv(0, 6)), 4, of(4, iv(0, 3))},
		{of(6, iv(0, 6)), 9, of(9, iv(0, 8))},
		{of(greatest, iv(0, greatest)), 0, of(0)},
		{of(greatest, iv(0, greatest)), greatest, of(greatest, iv(0, greatest-1))},
	} {
		checkAdd(t, c.e, c.counter, c.want)
		for _, replica := range []uint64{0, greatest} {
			c.e.Replica, c.want.Replica = replica, replica
			checkAdd(t, c.e, c.counter, c.want)
		}
	}
}

// All counters of a small range, number by number.
func TestP8_3NumberByNumber(t *testing.T) {
	const end = 6
	for _, c := range small(end).entries(3) {
		for counter := range uint64(end + 3) {
			got := join.Add(c.Entry, counter)
			checkCanonical(t, "Add", 3, got, true)
			for x := range uint64(end + 4) {
				if want := x == counter || knows(c.Entry, x); knows(got, x) != want {
					t.Errorf("Add(%v, %d) = %v: %d is known: %t", c.Entry, counter, got, x, !want)
				}
			}
		}
	}
}

// All counters that are cells of one number, at both ends of all numbers.
func TestP8_3AllCells(t *testing.T) {
	for _, cells := range []line{small(6), whole()} {
		for _, c := range cells.entries(greatest) {
			for i, cell := range cells {
				if cell.Lo == cell.Hi {
					want, _ := cells.canonical(greatest, c.known|1<<i)
					checkAdd(t, c.Entry, cell.Lo, want)
				}
			}
		}
	}
}

// Counters in any order: those that are added are known, and no others.
func TestP8_3ManyCounters(t *testing.T) {
	random := rand.New(rand.NewSource(83))
	for range 20 {
		e := of(0, iv(0, 0))
		known := map[uint64]bool{}
		for _, x := range random.Perm(120)[:80] {
			e = join.Add(e, uint64(x))
			known[uint64(x)] = true
			checkCanonical(t, "Add", 7, e, true)
		}
		for x := range uint64(130) {
			if knows(e, x) != known[x] {
				t.Errorf("%d is known by %v: %t", x, e, !known[x])
			}
		}
	}
}

func TestP8_4Next(t *testing.T) {
	for _, c := range []struct {
		e    api.Entry
		want uint64
		ok   bool
	}{
		// Canonical entries.
		{api.Entry{}, 1, true},
		{of(0), 1, true},
		{of(5), 6, true},
		{of(5, iv(0, 4)), 6, true},
		{of(5, iv(2, 3)), 6, true},
		{of(1<<63 - 1), 1 << 63, true},
		{of(greatest - 1), greatest, true},
		{of(greatest-1, iv(0, greatest-2)), greatest, true},
		// The last hole ends at Max.
		{of(5, iv(5, 5)), 5, true},
		{of(5, iv(3, 5)), 3, true},
		{of(5, iv(1, 5)), 1, true},
		{of(9, iv(0, 2), iv(5, 5), iv(8, 9)), 8, true},
		{of(9, iv(0, 2), iv(4, 9)), 4, true},
		{of(greatest, iv(greatest, greatest)), greatest, true},
		{of(greatest, iv(greatest-1, greatest)), greatest - 1, true},
		{of(greatest, iv(1, greatest)), 1, true},
		{of(greatest, iv(0, greatest-2), iv(greatest, greatest)), greatest, true},
		// Nothing is known.
		{of(0, iv(0, 0)), 0, true},
		{of(6, iv(0, 6)), 0, true},
		{of(greatest, iv(0, greatest)), 0, true},
		// The greatest counter is known.
		{of(greatest), 0, false},
		{of(greatest, iv(0, greatest-1)), 0, false},
		{of(greatest, iv(0, 5), iv(9, greatest-1)), 0, false},
	} {
		for _, replica := range []uint64{0, 7, greatest} {
			c.e.Replica = replica
			if got, ok := join.Next(c.e); got != c.want || ok != c.ok {
				t.Errorf("Next(%v) = %d, %t, want %d, %t", c.e, got, ok, c.want, c.ok)
			}
		}
	}
}

func TestP8_4AllEntries(t *testing.T) {
	for _, cells := range []line{small(7), whole()} {
		for _, c := range cells.entries(7) {
			want, wantOK := uint64(0), true
			if c.known != 0 {
				last := cells[bits.Len(c.known)-1].Hi
				// A number wraps around to 0 behind the greatest one.
				want, wantOK = last+1, last != greatest
			}
			if got, ok := join.Next(c.Entry); got != want || ok != wantOK {
				t.Errorf("Next(%v) = %d, %t, want %d, %t", c.Entry, got, ok, want, wantOK)
			}
		}
	}
}

// checkGrowth adds next counters to an entry, and checks that it has no other holes than its canonical form, which has last as its Max.
func checkGrowth(t *testing.T, e, form api.Entry, some bool, steps int) {
	t.Helper()
	start := e
	want, holes := uint64(0), api.Ranges(nil)
	if some {
		want, holes = form.Max+1, form.Holes
	}
	for range steps {
		counter, ok := join.Next(e)
		// Behind the greatest counter the number that is wanted wraps around.
		if full := some && want == 0; full || !ok {
			if !full || ok || counter != 0 {
				t.Errorf("from %v on, Next(%v) = %d, %t", start, e, counter, ok)
			}
			return
		}
		e = join.Add(e, counter)
		if counter != want || !same(e, api.Entry{Replica: start.Replica, Max: want, Holes: holes}) {
			t.Errorf("from %v on, the next counter is %d, and the entry is %v", start, counter, e)
		}
		want, some = want+1, true
	}
}

func TestP8_5NoFurtherHoles(t *testing.T) {
	for _, c := range []struct {
		e, form api.Entry
		some    bool
	}{
		{of(0, iv(0, 0)), api.Entry{}, false},
		{of(6, iv(0, 6)), api.Entry{}, false},
		{of(greatest, iv(0, greatest)), api.Entry{}, false},
		{of(0), of(0), true},
		{of(5), of(5), true},
		{of(5, iv(3, 4)), of(5, iv(3, 4)), true},
		{of(9, iv(0, 1), iv(6, 9)), of(5, iv(0, 1)), true},
		{of(greatest, iv(3, greatest)), of(2), true},
		{of(greatest - 3), of(greatest - 3), true},
		{of(greatest-3, iv(0, 4)), of(greatest-3, iv(0, 4)), true},
		{of(greatest, iv(1, 1), iv(greatest-2, greatest)), of(greatest-3, iv(1, 1)), true},
		{of(greatest), of(greatest), true},
	} {
		checkGrowth(t, c.e, c.form, c.some, 20)
	}
}

func TestP8_5AllEntries(t *testing.T) {
	for _, cells := range []line{small(7), whole()} {
		for _, c := range cells.entries(5) {
			form, some := cells.canonical(5, c.known)
			checkGrowth(t, c.Entry, form, some, 6)
		}
	}
}

// A long history of a replica, from nothing on.
func TestP8_5LongGrowth(t *testing.T) {
	checkGrowth(t, of(3, iv(0, 3)), api.Entry{}, false, 5000)
	checkGrowth(t, of(greatest-1500, iv(2, 9)), of(greatest-1500, iv(2, 9)), true, 2000)
}

func TestExamplesOfTheChapter(t *testing.T) {
	e := join.Add(of(2), 5)
	if !same(e, of(5, iv(3, 4))) {
		t.Errorf("with 5, the entry is %v", e)
	}
	e = join.Add(join.Add(e, 3), 4)
	if !same(e, of(5)) {
		t.Errorf("with 5, 3 and 4, the entry is %v", e)
	}
}

// P1: no argument makes a function panic or run on, not even an entry that is not correct.
func TestP1AllEntries(t *testing.T) {
	numbers := []uint64{0, 1, 2, greatest - 1, greatest}
	var all []api.Entry
	for _, last := range numbers {
		all = append(all, api.Entry{Replica: last, Max: last})
		for _, lo := range numbers {
			for _, hi := range numbers {
				all = append(all, of(last, iv(lo, hi)), of(last, iv(lo, hi), iv(1, 2)), of(last, iv(2, 0), iv(lo, hi)))
			}
		}
	}
	for _, a := range all {
		join.Next(a)
		for _, x := range numbers {
			join.Add(a, x)
		}
		for _, b := range all {
			join.Subset(a, b)
			for _, o := range operations() {
				o.call(a, b)
			}
		}
	}
}

// results are the functions that return an entry.
func results() map[string]func(a, b api.Entry) api.Entry {
	r := map[string]func(a, b api.Entry) api.Entry{
		"Add":      func(a, b api.Entry) api.Entry { return join.Add(a, b.Max) },
		"AddToOld": func(a, b api.Entry) api.Entry { return join.Add(a, a.Max) },
	}
	for _, o := range operations() {
		r[o.name] = func(a, b api.Entry) api.Entry {
			got, _ := o.call(a, b)
			return got
		}
	}
	return r
}

// Rule 4: no argument is changed, nothing behind its end is read or changed, and no result shares memory with it.
func TestArgumentsStay(t *testing.T) {
	memory := api.Ranges{iv(0, 4), iv(6, 6), iv(9, 12), iv(20, 29), iv(31, greatest)}
	before := slices.Clone(memory)
	// The Max of each entry is at the end of its last hole, or behind it; nothing is known by the first one.
	var all []api.Entry
	for size := 1; size <= len(memory); size++ {
		end := memory[size-1].Hi
		all = append(all, of(end, memory[:size]...), of(max(end, end+1), memory[:size]...))
	}
	for name, call := range results() {
		for _, a := range all {
			for _, b := range all {
				want := call(clone(a), clone(b))
				got := call(a, b)
				if !same(got, want) {
					t.Errorf("what is behind the end of %v or %v makes %v of the result of %s, not %v", a, b, got, name, want)
				}
				whole := got.Holes[:cap(got.Holes)]
				for i := range whole {
					whole[i] = iv(77, 77)
				}
				inside, wantInside := join.Subset(a, b), join.Subset(clone(a), clone(b))
				next, ok := join.Next(a)
				wantNext, wantOK := join.Next(clone(a))
				if inside != wantInside || next != wantNext || ok != wantOK {
					t.Errorf("what is behind the end of %v or %v makes %t, %d and %t of Subset and Next", a, b, inside, next, ok)
				}
				if !slices.Equal(memory, before) {
					t.Fatalf("%s, or a change of its result, makes %v of its arguments", name, memory)
				}
			}
		}
	}
}

// P2 and rule 4: a result stays as it is when an argument or another result changes.
func TestP2Independent(t *testing.T) {
	a := func() api.Entry { return of(20, iv(2, 3), iv(7, 9)) }
	b := func() api.Entry { return of(30, iv(3, 4), iv(8, 12), iv(14, 14)) }
	for name, call := range results() {
		x, y := a(), b()
		got, other := call(x, y), call(x, y)
		want := clone(got)
		if len(want.Holes) == 0 {
			t.Errorf("the result of %s has no holes", name)
		}
		clear(x.Holes)
		clear(y.Holes)
		clear(other.Holes[:cap(other.Holes)])
		_ = append(other.Holes[:0], iv(99, 99))
		if !same(got, want) {
			t.Errorf("a change of an argument or of another result of %s makes the result %v, not %v", name, got, want)
		}
		if again := call(a(), b()); !same(again, want) {
			t.Errorf("after a change of its result, %s returns %v, not %v", name, again, want)
		}
	}
}

// Rule 6: the functions may be called concurrently, also with the same entries.
func TestConcurrent(t *testing.T) {
	a, b := of(5, iv(4, 5)), of(9, iv(2, 2), iv(7, 9))
	var wait sync.WaitGroup
	for range 8 {
		wait.Go(func() {
			checkCall(t, operations()[0], a, b, of(6), true)
			checkCall(t, operations()[1], a, b, of(3, iv(2, 2)), true)
			checkCall(t, operations()[2], a, b, of(2, iv(0, 1)), true)
			checkAdd(t, b, 8, of(8, iv(2, 2), iv(7, 7)))
			checkGrowth(t, b, of(6, iv(2, 2)), true, 3)
			if join.Subset(a, b) || !join.Subset(a, of(3)) {
				t.Errorf("Subset of %v is wrong", a)
			}
		})
	}
	wait.Wait()
}
