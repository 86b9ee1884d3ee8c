package lattice_test

import (
	"math"
	"math/big"
	"math/bits"
	"math/rand"
	"slices"
	"sync"
	"testing"

	"kenning/api"
	"kenning/lattice"
	"kenning/vector"
	"kenning/word"
)

const greatest = math.MaxUint64

func iv(lo, hi uint64) api.Interval { return api.Interval{Lo: lo, Hi: hi} }

// of returns an entry.
func of(replica, last uint64, holes ...api.Interval) api.Entry {
	return api.Entry{Replica: replica, Max: last, Holes: holes}
}

// clone returns a copy of a vector.
func clone(v api.Vector) api.Vector {
	var l api.Vector
	for _, e := range v {
		l = append(l, of(e.Replica, e.Max, slices.Clone(e.Holes)...))
	}
	return l
}

// same compares two vectors field by field.
func same(a, b api.Vector) bool {
	return slices.EqualFunc(a, b, func(e, f api.Entry) bool {
		return e.Replica == f.Replica && e.Max == f.Max && slices.Equal(e.Holes, f.Holes)
	})
}

// knows reports whether a version is known by a vector, as the document says it.
func knows(v api.Vector, replica, counter uint64) bool {
	return slices.ContainsFunc(v, func(e api.Entry) bool {
		inHole := slices.ContainsFunc(e.Holes, func(hole api.Interval) bool { return hole.Lo <= counter && counter <= hole.Hi })
		return e.Replica == replica && counter <= e.Max && !inHole
	})
}

// operation is one of the three operations, and what it says of a version.
type operation struct {
	name  string
	call  func(a, b api.Vector) api.Vector
	takes func(inA, inB bool) bool
}

// operations are all three operations.
func operations() []operation {
	return []operation{
		{"Union", lattice.Union, func(inA, inB bool) bool { return inA || inB }},
		{"Meet", lattice.Meet, func(inA, inB bool) bool { return inA && inB }},
		{"Minus", lattice.Minus, func(inA, inB bool) bool { return inA && !inB }},
	}
}

// line is some cells in ascending order from 0 on, each one directly behind the one before it. A set of cells is a number with a bit for each.
type line []api.Interval

// small returns the line of the numbers up to one less than count.
func small(count uint64) line {
	var l line
	for x := range count {
		l = append(l, iv(x, x))
	}
	return l
}

// whole returns a line of all numbers: the least one, the greatest one, and all between them.
func whole() line { return line{iv(0, 0), iv(1, greatest-1), iv(greatest, greatest)} }

// list returns the list of a set: one interval for each run of cells.
func (l line) list(set uint) api.Ranges {
	var r api.Ranges
	for i, cell := range l {
		switch {
		case set>>i&1 == 0:
		case i > 0 && set>>(i-1)&1 == 1:
			r[len(r)-1].Hi = cell.Hi
		default:
			r = append(r, cell)
		}
	}
	return r
}

// up returns the set of the cells up to one.
func up(cell int) uint { return 1<<(cell+1) - 1 }

// space is some replicas in ascending order, whose counters are in cells.
type space struct {
	replicas []uint64
	cells    line
}

// spaces are those of which all pairs of vectors are tried.
func spaces() []space {
	return []space{
		{[]uint64{0, 3, greatest}, small(2)},
		{[]uint64{4, 5}, small(3)},
		{[]uint64{0, greatest}, whole()},
	}
}

// correct is a correct vector of a space, with the set of the counters that are known of each replica.
type correct struct {
	api.Vector
	known []uint
}

// vectors returns all correct vectors of a space: those with no entry of a replica, and with each one whose Max is at the end of a cell, with all sets of holes.
func (s space) vectors() []correct {
	all := []correct{{}}
	for _, replica := range s.replicas {
		var longer []correct
		for _, c := range all {
			longer = append(longer, correct{c.Vector, append(slices.Clip(c.known), 0)})
			for last, cell := range s.cells {
				for holes := range up(last) + 1 {
					e := of(replica, cell.Hi, s.cells.list(holes)...)
					longer = append(longer, correct{append(slices.Clip(c.Vector), e), append(slices.Clip(c.known), up(last)&^holes)})
				}
			}
		}
		all = longer
	}
	return all
}

// canonical returns the canonical vector by which a set of counters of each replica is known.
func (s space) canonical(known []uint) api.Vector {
	var v api.Vector
	for i, set := range known {
		if set != 0 {
			last := bits.Len(set) - 1
			v = append(v, of(s.replicas[i], s.cells[last].Hi, s.cells.list(up(last)&^set)...))
		}
	}
	return v
}

// combine returns the sets of the cells that an operation takes.
func (o operation) combine(a, b []uint, cells int) []uint {
	sets := make([]uint, len(a))
	for replica := range sets {
		for i := range cells {
			if o.takes(a[replica]>>i&1 == 1, b[replica]>>i&1 == 1) {
				sets[replica] |= 1 << i
			}
		}
	}
	return sets
}

// checkVector checks that a vector that was returned is the canonical one that is wanted.
func checkVector(t *testing.T, name string, a, b, got, want api.Vector) {
	t.Helper()
	if !same(got, want) {
		t.Errorf("%s of %v and %v is %v, want %v", name, a, b, got, want)
	}
	if !vector.Canonical(got) {
		t.Errorf("%s of %v and %v is %v, which is not canonical", name, a, b, got)
	}
}

// checkCall checks the result of an operation.
func checkCall(t *testing.T, o operation, a, b, want api.Vector) {
	t.Helper()
	checkVector(t, o.name, a, b, o.call(a, b), want)
}

// pairing is two vectors, and the results of the three operations.
type pairing struct{ a, b, union, meet, minus api.Vector }

// apart are pairings without a common replica, or without entries.
func apart() []pairing {
	one, two := api.Vector{of(1, 4)}, api.Vector{of(2, 3)}
	low, high := api.Vector{of(0, 0)}, api.Vector{of(greatest, greatest)}
	ragged := api.Vector{of(3, 9, iv(0, 1), iv(4, 4), iv(7, 8))}
	return []pairing{
		{nil, nil, nil, nil, nil},
		{nil, api.Vector{}, nil, nil, nil},
		{api.Vector{}, nil, nil, nil, nil},
		{api.Vector{}, api.Vector{}, nil, nil, nil},
		{one, nil, one, nil, one},
		{one, api.Vector{}, one, nil, one},
		{nil, one, one, nil, nil},
		{api.Vector{}, one, one, nil, nil},
		{ragged, nil, ragged, nil, ragged},
		{nil, ragged, ragged, nil, nil},
		// The replicas of a before, behind and between those of b.
		{one, two, slices.Concat(one, two), nil, one},
		{two, one, slices.Concat(one, two), nil, two},
		{low, high, slices.Concat(low, high), nil, low},
		{high, low, slices.Concat(low, high), nil, high},
		{two, slices.Concat(one, ragged), slices.Concat(one, two, ragged), nil, two},
		{slices.Concat(one, ragged), two, slices.Concat(one, two, ragged), nil, slices.Concat(one, ragged)},
		{slices.Concat(low, two, high), slices.Concat(one, ragged), slices.Concat(low, one, two, ragged, high), nil, slices.Concat(low, two, high)},
		// Replicas that are the counters of others.
		{api.Vector{of(4, 1)}, api.Vector{of(1, 4)}, api.Vector{of(1, 4), of(4, 1)}, nil, api.Vector{of(4, 1)}},
	}
}

// together are pairings with common replicas, and with canonical entries.
func together() []pairing {
	return []pairing{
		{api.Vector{of(7, 5)}, api.Vector{of(7, 3)}, api.Vector{of(7, 5)}, api.Vector{of(7, 3)}, api.Vector{of(7, 5, iv(0, 3))}},
		{api.Vector{of(7, 3)}, api.Vector{of(7, 5)}, api.Vector{of(7, 5)}, api.Vector{of(7, 3)}, nil},
		// A vector and itself.
		{api.Vector{of(1, 5, iv(2, 3)), of(7, 3)}, api.Vector{of(1, 5, iv(2, 3)), of(7, 3)}, api.Vector{of(1, 5, iv(2, 3)), of(7, 3)}, api.Vector{of(1, 5, iv(2, 3)), of(7, 3)}, nil},
		// The same replicas: entries vanish in the meet, in the difference, in both and in none.
		{
			api.Vector{of(1, 2), of(2, 5), of(3, 9, iv(0, 8)), of(4, 5)},
			api.Vector{of(1, 5, iv(0, 2)), of(2, 9), of(3, 8), of(4, 3)},
			api.Vector{of(1, 5), of(2, 9), of(3, 9), of(4, 5)},
			api.Vector{of(2, 5), of(4, 3)},
			api.Vector{of(1, 2), of(3, 9, iv(0, 8)), of(4, 5, iv(0, 3))},
		},
		// Some common replicas: the first, the last, one in between.
		{
			api.Vector{of(0, 4), of(5, 2), of(9, 1)},
			api.Vector{of(0, 6), of(4, 2), of(8, 1)},
			api.Vector{of(0, 6), of(4, 2), of(5, 2), of(8, 1), of(9, 1)},
			api.Vector{of(0, 4)},
			api.Vector{of(5, 2), of(9, 1)},
		},
		{
			api.Vector{of(1, 4), of(5, 2), of(greatest, 8)},
			api.Vector{of(3, 6), of(6, 2), of(greatest, 5)},
			api.Vector{of(1, 4), of(3, 6), of(5, 2), of(6, 2), of(greatest, 8)},
			api.Vector{of(greatest, 5)},
			api.Vector{of(1, 4), of(5, 2), of(greatest, 8, iv(0, 5))},
		},
		{
			api.Vector{of(1, 4), of(5, 2, iv(1, 1)), of(8, 8)},
			api.Vector{of(2, 6), of(5, 3, iv(0, 0), iv(2, 2))},
			api.Vector{of(1, 4), of(2, 6), of(5, 3), of(8, 8)},
			nil,
			api.Vector{of(1, 4), of(5, 2, iv(1, 1)), of(8, 8)},
		},
		// Many holes, also at 0.
		{
			api.Vector{of(7, 20, iv(0, 0), iv(2, 3), iv(6, 8), iv(12, 12), iv(14, 17))},
			api.Vector{of(7, 19, iv(0, 2), iv(5, 6), iv(8, 12), iv(15, 18))},
			api.Vector{of(7, 20, iv(0, 0), iv(2, 2), iv(6, 6), iv(8, 8), iv(12, 12), iv(15, 17))},
			api.Vector{of(7, 19, iv(0, 3), iv(5, 12), iv(14, 18))},
			api.Vector{of(7, 20, iv(0, 0), iv(2, 4), iv(6, 8), iv(12, 17), iv(19, 19))},
		},
		// The Max 0 and the greatest one, and the least and the greatest replica.
		{api.Vector{of(0, 0)}, api.Vector{of(0, 0)}, api.Vector{of(0, 0)}, api.Vector{of(0, 0)}, nil},
		{api.Vector{of(0, greatest)}, api.Vector{of(0, 0)}, api.Vector{of(0, greatest)}, api.Vector{of(0, 0)}, api.Vector{of(0, greatest, iv(0, 0))}},
		{api.Vector{of(0, 0)}, api.Vector{of(0, greatest, iv(0, 0))}, api.Vector{of(0, greatest)}, nil, api.Vector{of(0, 0)}},
		{
			api.Vector{of(0, greatest), of(greatest, greatest)},
			api.Vector{of(0, greatest-1), of(greatest, greatest, iv(0, greatest-1))},
			api.Vector{of(0, greatest), of(greatest, greatest)},
			api.Vector{of(0, greatest-1), of(greatest, greatest, iv(0, greatest-1))},
			api.Vector{of(0, greatest, iv(0, greatest-1)), of(greatest, greatest-1)},
		},
		{api.Vector{of(greatest, greatest)}, api.Vector{of(greatest, greatest)}, api.Vector{of(greatest, greatest)}, api.Vector{of(greatest, greatest)}, nil},
	}
}

// others are pairings with vectors that are not canonical: Max is in a hole, or nothing is known by an entry.
func others() []pairing {
	full, none := api.Vector{of(7, 5, iv(4, 5))}, api.Vector{of(7, 6, iv(0, 6))}
	return []pairing{
		{full, nil, api.Vector{of(7, 3)}, nil, api.Vector{of(7, 3)}},
		{nil, full, api.Vector{of(7, 3)}, nil, nil},
		{full, full, api.Vector{of(7, 3)}, api.Vector{of(7, 3)}, nil},
		{full, api.Vector{of(7, 3)}, api.Vector{of(7, 3)}, api.Vector{of(7, 3)}, nil},
		{full, api.Vector{of(7, 9, iv(2, 2), iv(7, 9))}, api.Vector{of(7, 6)}, api.Vector{of(7, 3, iv(2, 2))}, api.Vector{of(7, 2, iv(0, 1))}},
		{full, api.Vector{of(8, 5, iv(1, 5))}, api.Vector{of(7, 3), of(8, 0)}, nil, api.Vector{of(7, 3)}},
		{none, nil, nil, nil, nil},
		{nil, none, nil, nil, nil},
		{none, none, nil, nil, nil},
		{none, api.Vector{of(7, 0, iv(0, 0))}, nil, nil, nil},
		{none, api.Vector{of(8, greatest, iv(0, greatest))}, nil, nil, nil},
		{none, full, api.Vector{of(7, 3)}, nil, nil},
		{full, none, api.Vector{of(7, 3)}, nil, api.Vector{of(7, 3)}},
		{none, api.Vector{of(7, 0)}, api.Vector{of(7, 0)}, nil, nil},
		{api.Vector{of(7, 0)}, none, api.Vector{of(7, 0)}, nil, api.Vector{of(7, 0)}},
		// Entries by which nothing is known in front of, between and behind others.
		{
			api.Vector{of(0, 0, iv(0, 0)), of(2, 5), of(4, 9, iv(0, 9)), of(6, 5), of(greatest, 2, iv(0, 2))},
			api.Vector{of(1, 3, iv(0, 3)), of(2, 4), of(4, 1), of(5, greatest, iv(0, greatest)), of(6, 7, iv(0, 7))},
			api.Vector{of(2, 5), of(4, 1), of(6, 5)},
			api.Vector{of(2, 4)},
			api.Vector{of(2, 5, iv(0, 4)), of(6, 5)},
		},
		// The greatest counter is in a hole.
		{
			api.Vector{of(0, greatest, iv(greatest, greatest)), of(greatest, greatest, iv(1, greatest))},
			api.Vector{of(0, greatest, iv(0, greatest-2), iv(greatest, greatest)), of(greatest, greatest, iv(0, greatest-1))},
			api.Vector{of(0, greatest-1), of(greatest, greatest, iv(1, greatest-1))},
			api.Vector{of(0, greatest-1, iv(0, greatest-2))},
			api.Vector{of(0, greatest-2), of(greatest, 0)},
		},
	}
}

// pairings are those of the ordinary cases and of the edges.
func pairings() []pairing { return slices.Concat(apart(), together(), others()) }

func TestP10_1Union(t *testing.T) {
	for _, c := range pairings() {
		checkCall(t, operations()[0], c.a, c.b, c.union)
	}
}

func TestP10_1Meet(t *testing.T) {
	for _, c := range pairings() {
		checkCall(t, operations()[1], c.a, c.b, c.meet)
	}
}

func TestP10_1Minus(t *testing.T) {
	for _, c := range pairings() {
		checkCall(t, operations()[2], c.a, c.b, c.minus)
		checkCall(t, operations()[2], c.a, c.a, nil)
		checkCall(t, operations()[2], c.b, c.b, nil)
	}
}

// All pairs of vectors of a small range, version by version.
func TestP10_1VersionByVersion(t *testing.T) {
	s := space{[]uint64{0, 2}, small(3)}
	all := s.vectors()
	for _, o := range operations() {
		for _, a := range all {
			for _, b := range all {
				got := o.call(a.Vector, b.Vector)
				if !vector.Canonical(got) {
					t.Errorf("%s(%v, %v) = %v is not canonical", o.name, a.Vector, b.Vector, got)
				}
				for replica := range uint64(4) {
					for counter := range uint64(5) {
						want := o.takes(knows(a.Vector, replica, counter), knows(b.Vector, replica, counter))
						if knows(got, replica, counter) != want {
							t.Errorf("%s(%v, %v) = %v: %d of %d is known: %t", o.name, a.Vector, b.Vector, got, counter, replica, !want)
						}
					}
				}
			}
		}
	}
}

// All pairs of vectors of some spaces: the result is the canonical vector of the sets that are combined.
func TestP10_1AllPairs(t *testing.T) {
	for _, s := range spaces() {
		all := s.vectors()
		for _, o := range operations() {
			for _, a := range all {
				for _, b := range all {
					want := s.canonical(o.combine(a.known, b.known, len(s.cells)))
					checkCall(t, o, a.Vector, b.Vector, want)
				}
			}
		}
	}
}

// The numbers of random vectors are less than these ends.
const (
	endOfReplicas = 300
	endOfCounters = 20
)

// long returns a correct vector of many replicas, in which entries may have Max in a hole, or know nothing.
func long(random *rand.Rand) api.Vector {
	cells := small(endOfCounters)
	var v api.Vector
	for replica := range uint64(endOfReplicas) {
		if random.Intn(3) == 0 {
			continue
		}
		last := random.Intn(endOfCounters)
		holes := uint(random.Uint64()&random.Uint64()) & up(last)
		if random.Intn(20) == 0 {
			holes = up(last)
		}
		v = append(v, of(replica, uint64(last), cells.list(holes)...))
	}
	return v
}

// Vectors with many entries, version by version.
func TestP10_1LongVectors(t *testing.T) {
	random := rand.New(rand.NewSource(10))
	for range 10 {
		a, b := long(random), long(random)
		if err := vector.Check(a); err != nil || len(a) < endOfReplicas/2 || vector.Canonical(a) {
			t.Fatalf("%v: %v", a, err)
		}
		for _, o := range operations() {
			got := o.call(a, b)
			if !vector.Canonical(got) {
				t.Errorf("%s of long vectors is %v, which is not canonical", o.name, got)
			}
			for replica := range uint64(endOfReplicas + 1) {
				for counter := range uint64(endOfCounters + 1) {
					want := o.takes(vector.Has(a, replica, counter), vector.Has(b, replica, counter))
					if vector.Has(got, replica, counter) != want {
						t.Errorf("%s of long vectors: %d of %d is known: %t", o.name, counter, replica, !want)
					}
				}
			}
		}
	}
}

func TestP10_2Subset(t *testing.T) {
	v := api.Vector{of(0, 5, iv(1, 2)), of(3, 9, iv(0, 3), iv(6, 6)), of(greatest, greatest)}
	none := api.Vector{of(1, 6, iv(0, 6)), of(greatest, greatest, iv(0, greatest))}
	for _, c := range []struct {
		a, b        api.Vector
		forth, back bool
	}{
		// Without entries, and without versions.
		{nil, nil, true, true},
		{nil, api.Vector{}, true, true},
		{nil, v, true, false},
		{api.Vector{}, v, true, false},
		{nil, api.Vector{of(0, 0)}, true, false},
		{nil, none, true, true},
		{none, none, true, true},
		{none, v, true, false},
		{none, api.Vector{of(1, 0, iv(0, 0))}, true, true},
		{none, api.Vector{of(1, 0)}, true, false},
		{none, api.Vector{of(0, 0)}, true, false},
		// A vector and itself.
		{v, v, true, true},
		{v, clone(v), true, true},
		{api.Vector{of(0, 0)}, api.Vector{of(0, 0)}, true, true},
		// An entry is missing: the first one, the last one, one in between.
		{v[1:], v, true, false},
		{v[:2], v, true, false},
		{api.Vector{v[0], v[2]}, v, true, false},
		{v[1:2], v, true, false},
		{v[:1], v[1:], false, false},
		{v[:2], v[1:], false, false},
		// The same counters of other replicas.
		{api.Vector{of(1, 5)}, api.Vector{of(2, 5)}, false, false},
		{api.Vector{of(0, 0)}, api.Vector{of(1, 0)}, false, false},
		{api.Vector{of(greatest-1, 5)}, api.Vector{of(greatest, 5)}, false, false},
		// One version alone is missing: in a hole, at Max, at 0.
		{api.Vector{v[0], of(3, 9, iv(0, 3), iv(5, 6)), v[2]}, v, true, false},
		{api.Vector{v[0], of(3, 8, iv(0, 3), iv(6, 6)), v[2]}, v, true, false},
		{api.Vector{of(0, 5, iv(0, 2)), v[1], v[2]}, v, true, false},
		{api.Vector{v[0], v[1], of(greatest, greatest-1)}, v, true, false},
		{api.Vector{v[0], v[1], of(greatest, greatest, iv(1<<63, 1<<63))}, v, true, false},
		{api.Vector{of(7, 0)}, api.Vector{of(7, 1)}, true, false},
		// Only one of several entries has more, or each vector has one that has more.
		{api.Vector{of(1, 5), of(2, 5), of(3, 5)}, api.Vector{of(1, 5), of(2, 6), of(3, 5)}, true, false},
		{api.Vector{of(1, 5), of(2, 5)}, api.Vector{of(1, 6), of(2, 4)}, false, false},
		{api.Vector{of(1, 5, iv(2, 3))}, api.Vector{of(1, 5, iv(3, 4))}, false, false},
		{api.Vector{of(1, 5)}, api.Vector{of(1, 4), of(2, 9)}, false, false},
		// Only the form is different.
		{api.Vector{of(7, 5, iv(4, 5))}, api.Vector{of(7, 3)}, true, true},
		{api.Vector{of(7, 5, iv(4, 5))}, api.Vector{of(7, 9, iv(4, 9))}, true, true},
		{api.Vector{of(7, 5, iv(1, 1), iv(3, 5)), of(8, 0, iv(0, 0))}, api.Vector{of(6, 2, iv(0, 2)), of(7, 2, iv(1, 1))}, true, true},
		{api.Vector{of(7, 5, iv(4, 5))}, api.Vector{of(7, 9, iv(5, 9))}, true, false},
	} {
		if got := lattice.Subset(c.a, c.b); got != c.forth {
			t.Errorf("Subset(%v, %v) = %t", c.a, c.b, got)
		}
		if got := lattice.Subset(c.b, c.a); got != c.back {
			t.Errorf("Subset(%v, %v) = %t", c.b, c.a, got)
		}
	}
}

func TestP10_2AllPairs(t *testing.T) {
	for _, s := range spaces() {
		all := s.vectors()
		for _, a := range all {
			for _, b := range all {
				want := true
				for i, set := range a.known {
					want = want && set&^b.known[i] == 0
				}
				if got := lattice.Subset(a.Vector, b.Vector); got != want {
					t.Errorf("Subset(%v, %v) = %t", a.Vector, b.Vector, got)
				}
			}
		}
	}
}

// A difference in one version of many.
func TestP10_2LongVectors(t *testing.T) {
	random := rand.New(rand.NewSource(102))
	v := long(random)
	for replica := range uint64(endOfReplicas) {
		counter := uint64(random.Intn(endOfCounters))
		known := knows(v, replica, counter)
		more := lattice.Add(v, replica, counter)
		if !lattice.Subset(v, more) || lattice.Subset(more, v) != known {
			t.Errorf("with %d of %d, which is known: %t, Subset = %t and %t", counter, replica, known, lattice.Subset(v, more), lattice.Subset(more, v))
		}
	}
}

// checkAdd checks the result of Add.
func checkAdd(t *testing.T, v api.Vector, replica, counter uint64, want api.Vector) {
	t.Helper()
	checkVector(t, "Add", v, api.Vector{of(replica, counter)}, lattice.Add(v, replica, counter), want)
}

// Versions of a replica that has an entry, between others.
func TestP10_3SameReplica(t *testing.T) {
	holes := of(5, 9, iv(2, 2), iv(4, 7))
	for _, c := range []struct {
		e       api.Entry
		counter uint64
		want    api.Entry
	}{
		// Known already.
		{of(5, 5), 0, of(5, 5)},
		{of(5, 5), 3, of(5, 5)},
		{of(5, 5), 5, of(5, 5)},
		{of(5, 0), 0, of(5, 0)},
		{of(5, greatest), greatest, of(5, greatest)},
		{holes, 3, holes},
		{holes, 9, holes},
		// In a hole: of one number, inside of a longer one, and at its edges.
		{holes, 2, of(5, 9, iv(4, 7))},
		{holes, 5, of(5, 9, iv(2, 2), iv(4, 4), iv(6, 7))},
		{holes, 4, of(5, 9, iv(2, 2), iv(5, 7))},
		{holes, 7, of(5, 9, iv(2, 2), iv(4, 6))},
		{of(5, 9, iv(0, 4)), 0, of(5, 9, iv(1, 4))},
		{of(5, 9, iv(0, 0)), 0, of(5, 9)},
		// The next counter, the one behind it, and one far behind Max.
		{of(5, 5), 6, of(5, 6)},
		{of(5, 5), 7, of(5, 7, iv(6, 6))},
		{of(5, 0), 1, of(5, 1)},
		{holes, 10, of(5, 10, iv(2, 2), iv(4, 7))},
		{holes, 100, of(5, 100, iv(2, 2), iv(4, 7), iv(10, 99))},
		// The greatest counter.
		{of(5, 5), greatest, of(5, greatest, iv(6, greatest-1))},
		{of(5, greatest-1), greatest, of(5, greatest)},
		{of(5, greatest-2), greatest, of(5, greatest, iv(greatest-1, greatest-1))},
		{of(5, greatest, iv(0, greatest-1)), 0, of(5, greatest, iv(1, greatest-1))},
		// Max is in a hole.
		{of(5, 9, iv(6, 9)), 3, of(5, 5)},
		{of(5, 9, iv(6, 9)), 6, of(5, 6)},
		{of(5, 9, iv(6, 9)), 9, of(5, 9, iv(6, 8))},
		{of(5, 9, iv(6, 9)), 12, of(5, 12, iv(6, 11))},
		{of(5, greatest, iv(greatest, greatest)), greatest, of(5, greatest)},
		// Nothing is known by the entry.
		{of(5, 0, iv(0, 0)), 0, of(5, 0)},
		{of(5, 6, iv(0, 6)), 4, of(5, 4, iv(0, 3))},
		{of(5, 6, iv(0, 6)), 9, of(5, 9, iv(0, 8))},
		{of(5, greatest, iv(0, greatest)), greatest, of(5, greatest, iv(0, greatest-1))},
	} {
		front, back := of(4, 3, iv(1, 1)), of(6, 0)
		checkAdd(t, api.Vector{c.e}, 5, c.counter, api.Vector{c.want})
		checkAdd(t, api.Vector{front, c.e}, 5, c.counter, api.Vector{front, c.want})
		checkAdd(t, api.Vector{c.e, back}, 5, c.counter, api.Vector{c.want, back})
		checkAdd(t, api.Vector{front, c.e, back}, 5, c.counter, api.Vector{front, c.want, back})
	}
}

// Versions of a replica that has no entry.
func TestP10_3NewReplica(t *testing.T) {
	for _, c := range []struct {
		v       api.Vector
		replica uint64
		at      int
	}{
		{nil, 0, 0},
		{nil, 7, 0},
		{api.Vector{}, greatest, 0},
		// Before, between and behind all others.
		{api.Vector{of(4, 9), of(6, 9, iv(2, 3))}, 0, 0},
		{api.Vector{of(4, 9), of(6, 9, iv(2, 3))}, 3, 0},
		{api.Vector{of(4, 9), of(6, 9, iv(2, 3))}, 5, 1},
		{api.Vector{of(4, 9), of(6, 9, iv(2, 3))}, 7, 2},
		{api.Vector{of(4, 9), of(6, 9, iv(2, 3))}, greatest, 2},
		{api.Vector{of(0, 0), of(greatest, greatest)}, 1 << 63, 1},
		{api.Vector{of(0, 0), of(1, 1), of(2, 2)}, greatest, 3},
		{api.Vector{of(greatest-1, 0), of(greatest, 1)}, 0, 0},
	} {
		for counter, e := range map[uint64]api.Entry{
			0:        of(c.replica, 0),
			1:        of(c.replica, 1, iv(0, 0)),
			5:        of(c.replica, 5, iv(0, 4)),
			greatest: of(c.replica, greatest, iv(0, greatest-1)),
		} {
			checkAdd(t, c.v, c.replica, counter, slices.Insert(clone(c.v), c.at, e))
		}
	}
	// The other entries are not canonical.
	checkAdd(t, api.Vector{of(2, 5, iv(4, 5)), of(4, 1, iv(0, 1)), of(9, 5)}, 7, 0, api.Vector{of(2, 3), of(7, 0), of(9, 5)})
	checkAdd(t, api.Vector{of(4, 1, iv(0, 1))}, 7, 2, api.Vector{of(7, 2, iv(0, 1))})
}

// All versions around all vectors of a small range, version by version.
func TestP10_3VersionByVersion(t *testing.T) {
	s := space{[]uint64{1, 3}, small(3)}
	for _, c := range s.vectors() {
		for replica := range uint64(5) {
			for counter := range uint64(6) {
				got := lattice.Add(c.Vector, replica, counter)
				if !vector.Canonical(got) {
					t.Errorf("Add(%v, %d, %d) = %v is not canonical", c.Vector, replica, counter, got)
				}
				for r := range uint64(6) {
					for x := range uint64(7) {
						want := r == replica && x == counter || knows(c.Vector, r, x)
						if knows(got, r, x) != want {
							t.Errorf("Add(%v, %d, %d) = %v: %d of %d is known: %t", c.Vector, replica, counter, got, x, r, !want)
						}
					}
				}
			}
		}
	}
}

// All versions that are cells of one number.
func TestP10_3AllCells(t *testing.T) {
	for _, s := range spaces() {
		for _, c := range s.vectors() {
			for r, replica := range s.replicas {
				for i, cell := range s.cells {
					if cell.Lo != cell.Hi {
						continue
					}
					known := slices.Clone(c.known)
					known[r] |= 1 << i
					checkAdd(t, c.Vector, replica, cell.Lo, s.canonical(known))
				}
			}
		}
	}
}

// Versions in any order: those that are added are known, and no others.
func TestP10_3ManyVersions(t *testing.T) {
	const replicas, counters = 12, 15
	random := rand.New(rand.NewSource(103))
	for range 10 {
		var v api.Vector
		known := map[[2]uint64]bool{}
		for _, x := range random.Perm(replicas * counters)[:100] {
			version := [2]uint64{uint64(x % replicas), uint64(x / replicas)}
			v = lattice.Add(v, version[0], version[1])
			known[version] = true
			if !vector.Canonical(v) {
				t.Errorf("%v is not canonical", v)
			}
		}
		for replica := range uint64(replicas + 1) {
			for counter := range uint64(counters + 1) {
				if got := knows(v, replica, counter); got != known[[2]uint64{replica, counter}] {
					t.Errorf("%d of %d is known by %v: %t", counter, replica, v, got)
				}
			}
		}
	}
}

func TestP10_4Count(t *testing.T) {
	var ones, wholes api.Vector
	for replica := range uint64(1000) {
		ones = append(ones, of(replica, replica, iv(0, replica), iv(replica+2, replica+5)))
		ones[replica].Max = replica + 5
		wholes = append(wholes, of(replica, greatest))
	}
	for _, c := range []struct {
		v    api.Vector
		want word.Count
	}{
		{nil, word.Count{}},
		{api.Vector{}, word.Count{}},
		// One entry.
		{api.Vector{of(7, 0)}, word.Count{Low: 1}},
		{api.Vector{of(0, 5)}, word.Count{Low: 6}},
		{api.Vector{of(greatest, 5)}, word.Count{Low: 6}},
		{api.Vector{of(7, 9, iv(0, 2))}, word.Count{Low: 7}},
		{api.Vector{of(7, 9, iv(2, 2), iv(4, 7))}, word.Count{Low: 5}},
		{api.Vector{of(7, 9, iv(8, 9))}, word.Count{Low: 8}},
		{api.Vector{of(7, 9, iv(0, 0), iv(2, 4), iv(8, 9))}, word.Count{Low: 4}},
		{api.Vector{of(7, 9, iv(0, 9))}, word.Count{}},
		{api.Vector{of(7, 0, iv(0, 0))}, word.Count{}},
		// The greatest numbers.
		{api.Vector{of(7, greatest-1)}, word.Count{Low: greatest}},
		{api.Vector{of(7, greatest)}, word.Count{Over: 1}},
		{api.Vector{of(7, greatest, iv(0, 0))}, word.Count{Low: greatest}},
		{api.Vector{of(7, greatest, iv(greatest, greatest))}, word.Count{Low: greatest}},
		{api.Vector{of(7, greatest, iv(0, greatest-1))}, word.Count{Low: 1}},
		{api.Vector{of(7, greatest, iv(0, greatest))}, word.Count{}},
		// More entries, and more than 2^64 - 1 versions.
		{api.Vector{of(1, 4), of(2, 3)}, word.Count{Low: 9}},
		{api.Vector{of(0, 4, iv(1, 2)), of(2, 3, iv(0, 3)), of(greatest, 9, iv(5, 9))}, word.Count{Low: 8}},
		{api.Vector{of(1, greatest-1), of(2, 0)}, word.Count{Over: 1}},
		{api.Vector{of(1, 1<<63-1), of(2, 1<<63-1)}, word.Count{Over: 1}},
		{api.Vector{of(1, greatest-1), of(2, greatest-1)}, word.Count{Over: 1, Low: greatest - 1}},
		{api.Vector{of(1, greatest), of(2, 3)}, word.Count{Over: 1, Low: 4}},
		{api.Vector{of(0, greatest), of(greatest, greatest)}, word.Count{Over: 2}},
		{api.Vector{of(0, greatest), of(1, greatest, iv(5, 5)), of(2, 1)}, word.Count{Over: 2, Low: 1}},
		{ones, word.Count{Low: 1000}},
		{wholes, word.Count{Over: 1000}},
		{append(slices.Clip(wholes), of(greatest, 41)), word.Count{Over: 1000, Low: 42}},
	} {
		if err := vector.Check(c.v); err != nil {
			t.Fatalf("%v: %v", c.v, err)
		}
		if got := lattice.Count(c.v); got != c.want {
			t.Errorf("Count(%v) = %v, want %v", c.v, got, c.want)
		}
	}
}

// widths returns how many numbers the sets of a vector have, cell by cell.
func (s space) widths(known []uint) string {
	sum := new(big.Int)
	for _, set := range known {
		for i, cell := range s.cells {
			if set>>i&1 == 1 {
				width := new(big.Int).SetUint64(cell.Hi - cell.Lo)
				sum.Add(sum, width.Add(width, big.NewInt(1)))
			}
		}
	}
	return sum.String()
}

func TestP10_4AllVectors(t *testing.T) {
	for _, s := range spaces() {
		for _, c := range s.vectors() {
			if got, want := word.Text(lattice.Count(c.Vector)), s.widths(c.known); got != want {
				t.Errorf("Count(%v) = %s, want %s", c.Vector, got, want)
			}
		}
	}
}

func TestP10_4LongVectors(t *testing.T) {
	random := rand.New(rand.NewSource(104))
	for range 10 {
		v := long(random)
		want := uint64(0)
		for replica := range uint64(endOfReplicas) {
			for counter := range uint64(endOfCounters) {
				if vector.Has(v, replica, counter) {
					want++
				}
			}
		}
		if got := lattice.Count(v); got != (word.Count{Low: want}) {
			t.Errorf("Count of a long vector is %v, want %d", got, want)
		}
		if got := lattice.Count(vector.Canon(v)); got.Low != want {
			t.Errorf("Count of the canonical form of a long vector is %v, want %d", got, want)
		}
	}
}

// checkLaws checks the laws of two vectors.
func checkLaws(t *testing.T, a, b api.Vector) {
	t.Helper()
	form := vector.Canon(a)
	union, meet, minus := lattice.Union(a, b), lattice.Meet(a, b), lattice.Minus(a, b)
	for _, law := range []struct {
		name      string
		got, want api.Vector
	}{
		{"Union is commutative", lattice.Union(b, a), union},
		{"Meet is commutative", lattice.Meet(b, a), meet},
		{"Union is idempotent", lattice.Union(a, a), form},
		{"Meet is idempotent", lattice.Meet(a, a), form},
		{"Union absorbs Meet", lattice.Union(a, meet), form},
		{"Meet absorbs Union", lattice.Meet(a, union), form},
		{"the union of Meet and Minus is a", lattice.Union(meet, minus), form},
		{"Meet and Minus have nothing in common", lattice.Meet(meet, minus), nil},
		{"Minus of the union is that of b", lattice.Minus(union, b), minus},
	} {
		if !same(law.got, law.want) {
			t.Errorf("%s: %v and %v yield %v and %v", law.name, a, b, law.got, law.want)
		}
	}
	inside := lattice.Subset(a, b)
	if inside != (len(minus) == 0) || inside != same(meet, form) || inside != same(union, vector.Canon(b)) {
		t.Errorf("%v is a subset of %v: %t, but Minus is %v", a, b, inside, minus)
	}
	both, each := word.Plus(lattice.Count(union), lattice.Count(meet)), word.Plus(lattice.Count(a), lattice.Count(b))
	if both != each {
		t.Errorf("union and meet of %v and %v have %v versions, but both together %v", a, b, both, each)
	}
}

func TestP10_5Pairs(t *testing.T) {
	for _, c := range pairings() {
		checkLaws(t, c.a, c.b)
		checkLaws(t, c.b, c.a)
	}
	for _, s := range []space{{[]uint64{0, greatest}, small(3)}, {[]uint64{2, 3}, whole()}} {
		all := s.vectors()
		for _, a := range all {
			for _, b := range all {
				checkLaws(t, a.Vector, b.Vector)
			}
		}
	}
}

// checkTriple checks the laws of three vectors.
func checkTriple(t *testing.T, a, b, c api.Vector) {
	t.Helper()
	union, meet := lattice.Union, lattice.Meet
	for _, law := range []struct {
		name      string
		got, want api.Vector
	}{
		{"Union is associative", union(union(a, b), c), union(a, union(b, c))},
		{"Meet is associative", meet(meet(a, b), c), meet(a, meet(b, c))},
		{"Union distributes over Meet", union(a, meet(b, c)), meet(union(a, b), union(a, c))},
		{"Meet distributes over Union", meet(a, union(b, c)), union(meet(a, b), meet(a, c))},
	} {
		if !same(law.got, law.want) {
			t.Errorf("%s: %v, %v and %v yield %v and %v", law.name, a, b, c, law.got, law.want)
		}
	}
}

func TestP10_5Triples(t *testing.T) {
	all := space{[]uint64{0, greatest}, small(2)}.vectors()
	for _, a := range all {
		for _, b := range all {
			for _, c := range all {
				checkTriple(t, a.Vector, b.Vector, c.Vector)
			}
		}
	}
	all = space{[]uint64{7}, whole()}.vectors()
	for _, a := range all {
		for _, b := range all {
			for _, c := range all {
				checkTriple(t, a.Vector, b.Vector, c.Vector)
			}
		}
	}
}

func TestP10_5LongVectors(t *testing.T) {
	random := rand.New(rand.NewSource(105))
	for range 10 {
		a, b, c := long(random), long(random), long(random)
		checkLaws(t, a, b)
		checkTriple(t, a, b, c)
	}
}

func TestExampleOfTheChapter(t *testing.T) {
	a, b := api.Vector{of(1, 4)}, api.Vector{of(2, 3)}
	checkCall(t, operations()[0], a, b, api.Vector{of(1, 4), of(2, 3)})
	checkCall(t, operations()[1], a, b, nil)
}

// anyVectors returns vectors that are not correct: entries with wrong holes, in a wrong order, and several of one replica.
func anyVectors() []api.Vector {
	var pool []api.Entry
	for _, replica := range []uint64{0, 5, greatest} {
		pool = append(pool,
			of(replica, 3),
			of(replica, 3, iv(2, 1)),
			of(replica, 3, iv(1, 1), iv(2, 2)),
			of(replica, 3, iv(2, 3), iv(0, 1)),
			of(replica, 3, iv(0, greatest)),
			of(replica, greatest, iv(greatest, 0), iv(1, greatest)),
		)
	}
	all := []api.Vector{nil}
	for _, e := range pool {
		all = append(all, api.Vector{e})
		for _, f := range pool {
			all = append(all, api.Vector{e, f})
		}
	}
	// Many entries of one replica, in a wrong order.
	var many api.Vector
	for x := range uint64(100) {
		many = append(many, of(5, x, iv(x, x), iv(x, x), iv(x+1, 0)), of(greatest-x, 9))
	}
	return append(all, many)
}

// P1: no argument makes a function panic or run on, not even a vector that is not correct.
func TestP1AllVectors(t *testing.T) {
	numbers := []uint64{0, 1, 3, 5, greatest - 1, greatest}
	all := anyVectors()
	for _, a := range all {
		lattice.Count(a)
		for _, replica := range numbers {
			for _, counter := range numbers {
				lattice.Add(a, replica, counter)
			}
		}
		for _, b := range all {
			lattice.Subset(a, b)
			for _, o := range operations() {
				o.call(a, b)
			}
		}
	}
}

// overwrite changes all memory of a vector: its entries and their holes, and what is behind their ends.
func overwrite(v api.Vector) {
	v = v[:cap(v)]
	for i := range v {
		overwriteHoles(v[i].Holes)
		v[i] = of(77, 77, iv(77, 77))
	}
}

// overwriteHoles changes all memory of a list.
func overwriteHoles(l api.Ranges) {
	l = l[:cap(l)]
	for i := range l {
		l[i] = iv(78, 78)
	}
}

// results are the functions that return a vector.
func results() map[string]func(a, b api.Vector) api.Vector {
	r := map[string]func(a, b api.Vector) api.Vector{
		"Add":       func(a, b api.Vector) api.Vector { return lattice.Add(a, 6, 13) },
		"AddInHole": func(a, b api.Vector) api.Vector { return lattice.Add(a, 2, 11) },
		"AddKnown":  func(a, b api.Vector) api.Vector { return lattice.Add(a, 2, 5) },
	}
	for _, o := range operations() {
		r[o.name] = o.call
	}
	return r
}

// beginnings returns vectors in one memory, with entries whose holes are in another one: of each number of entries and of holes.
func beginnings(memory api.Vector, lists api.Ranges) []api.Vector {
	var all []api.Vector
	for count := range len(memory) + 1 {
		all = append(all, memory[:count])
	}
	for size := 1; size <= len(lists); size++ {
		end := lists[size-1].Hi
		all = append(all, api.Vector{of(2, end, lists[:size]...), of(9, max(end, end+1), lists[:size]...)})
	}
	return all
}

// Rule 4: no argument is changed, nothing behind its end is read or changed, and no result shares memory with it.
func TestArgumentsStay(t *testing.T) {
	lists := api.Ranges{iv(0, 4), iv(6, 6), iv(9, 12), iv(20, 29), iv(31, greatest)}
	memory := api.Vector{
		of(1, 9, lists[:2]...), of(2, 12, lists[:3]...), of(4, 4, lists[:1]...), of(7, 3), of(8, greatest, lists...),
	}
	listsBefore, before := slices.Clone(lists), clone(memory)
	all := beginnings(memory, lists)
	for _, a := range all {
		for _, b := range all {
			for name, call := range results() {
				want := call(clone(a), clone(b))
				got := call(a, b)
				if !same(got, want) {
					t.Errorf("what is behind the end of %v or %v makes %v of the result of %s, not %v", a, b, got, name, want)
				}
				overwrite(got)
			}
			if got, want := lattice.Subset(a, b), lattice.Subset(clone(a), clone(b)); got != want {
				t.Errorf("what is behind the end of %v or %v makes %t of Subset", a, b, got)
			}
			if got, want := lattice.Count(a), lattice.Count(clone(a)); got != want {
				t.Errorf("what is behind the end of %v makes %v of Count, not %v", a, got, want)
			}
			if !same(memory, before) || !slices.Equal(lists, listsBefore) {
				t.Fatalf("a function, or a change of its result, makes %v and %v of its arguments", memory, lists)
			}
		}
	}
}

// P2 and rule 4: a result stays as it is when an argument, another result or another part of it changes.
func TestP2Independent(t *testing.T) {
	a := func() api.Vector {
		return api.Vector{of(1, 20, iv(2, 3), iv(7, 9)), of(2, 15, iv(9, 12)), of(4, 30, iv(1, 1), iv(5, 6)), of(greatest, 8, iv(1, 4))}
	}
	b := func() api.Vector {
		return api.Vector{of(1, 30, iv(3, 4), iv(8, 12), iv(14, 14)), of(3, 9, iv(4, 5)), of(4, 25, iv(1, 2), iv(6, 7)), of(greatest, 9, iv(2, 3), iv(9, 9))}
	}
	for name, call := range results() {
		x, y := a(), b()
		got, other := call(x, y), call(x, y)
		want := clone(got)
		if len(want) < 3 || len(want[0].Holes) == 0 || len(want[len(want)-1].Holes) == 0 {
			t.Errorf("the result of %s is %v", name, want)
		}
		overwrite(x)
		overwrite(y)
		overwrite(other)
		_ = append(other[:0], of(99, 99))
		if !same(got, want) {
			t.Errorf("a change of an argument or of another result of %s makes the result %v, not %v", name, got, want)
		}
		for i := range got {
			overwriteHoles(got[i].Holes)
			if rest := got[i+1:]; !same(rest, want[i+1:]) {
				t.Errorf("a change of the holes %d of a result of %s makes %v of the others", i, name, rest)
			}
		}
		if again := call(a(), b()); !same(again, want) {
			t.Errorf("after a change of its result, %s returns %v, not %v", name, again, want)
		}
	}
}

// Rule 7: the order of the entries is the same in each call.
func TestDeterminism(t *testing.T) {
	random := rand.New(rand.NewSource(107))
	a, b := long(random), long(random)
	for name, call := range results() {
		want := call(a, b)
		for range 20 {
			if got := call(a, b); !same(got, want) {
				t.Errorf("%s returns %v, and then %v", name, want, got)
			}
		}
	}
}

// Rule 6: the functions may be called concurrently, also with the same vectors.
func TestConcurrent(t *testing.T) {
	a := api.Vector{of(1, 9, iv(1, 2), iv(7, 9)), of(4, 5, iv(0, 5)), of(greatest, 8)}
	b := api.Vector{of(1, 2), of(2, 3, iv(0, 0))}
	var wait sync.WaitGroup
	for range 8 {
		wait.Go(func() {
			checkCall(t, operations()[0], a, b, api.Vector{of(1, 6), of(2, 3, iv(0, 0)), of(greatest, 8)})
			checkCall(t, operations()[1], a, b, api.Vector{of(1, 0)})
			checkCall(t, operations()[2], a, b, api.Vector{of(1, 6, iv(0, 2)), of(greatest, 8)})
			checkAdd(t, b, 2, 0, api.Vector{of(1, 2), of(2, 3)})
			if lattice.Subset(b, a) || !lattice.Subset(b[:1], b) || lattice.Count(a) != (word.Count{Low: 14}) {
				t.Errorf("Subset or Count of %v is wrong", a)
			}
		})
	}
	wait.Wait()
}
