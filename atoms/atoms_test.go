package atoms_test

import (
	"iter"
	"math"
	"math/bits"
	"math/rand"
	"slices"
	"strconv"
	"sync"
	"testing"

	"kenning/api"
	"kenning/atoms"
	"kenning/ranges"
	"kenning/scope"
	"kenning/vector"
)

const greatest = math.MaxUint64

func iv(lo, hi uint64) api.Interval { return api.Interval{Lo: lo, Hi: hi} }

// list returns a list of intervals.
func list(l ...api.Interval) api.Ranges { return l }

// of returns an entry.
func of(replica, last uint64, holes ...api.Interval) api.Entry {
	return api.Entry{Replica: replica, Max: last, Holes: holes}
}

// on returns a fragment.
func on(items api.Ranges, entries ...api.Entry) api.Fragment {
	return api.Fragment{Items: items, Vector: entries}
}

// cloneVector returns a copy of a vector.
func cloneVector(v api.Vector) api.Vector {
	var l api.Vector
	for _, e := range v {
		l = append(l, of(e.Replica, e.Max, slices.Clone(e.Holes)...))
	}
	return l
}

// clone returns a copy of knowledge.
func clone(k api.Knowledge) api.Knowledge {
	var l api.Knowledge
	for _, f := range k {
		l = append(l, on(slices.Clone(f.Items), cloneVector(f.Vector)...))
	}
	return l
}

// sameVector compares two vectors field by field.
func sameVector(a, b api.Vector) bool {
	return slices.EqualFunc(a, b, func(e, f api.Entry) bool {
		return e.Replica == f.Replica && e.Max == f.Max && slices.Equal(e.Holes, f.Holes)
	})
}

// same compares knowledge field by field.
func same(a, b api.Knowledge) bool {
	return slices.EqualFunc(a, b, func(f, g api.Fragment) bool {
		return slices.Equal(f.Items, g.Items) && sameVector(f.Vector, g.Vector)
	})
}

// contains reports whether a number is in one of some intervals.
func contains(l api.Ranges, x uint64) bool {
	return slices.ContainsFunc(l, func(s api.Interval) bool { return s.Lo <= x && x <= s.Hi })
}

// knows reports whether a version is known for an item, as the document says it.
func knows(k api.Knowledge, item, replica, counter uint64) bool {
	return slices.ContainsFunc(k, func(f api.Fragment) bool {
		return contains(f.Items, item) && slices.ContainsFunc(f.Vector, func(e api.Entry) bool {
			return e.Replica == replica && counter <= e.Max && !contains(e.Holes, counter)
		})
	})
}

// members returns the indices of the fragments with an item, as the document says it.
func members(k api.Knowledge, item uint64) []int {
	var l []int
	for i, f := range k {
		if contains(f.Items, item) {
			l = append(l, i)
		}
	}
	return l
}

// isStart reports whether a number is a start, as the document says it.
func isStart(k api.Knowledge, x uint64) bool {
	return x == 0 || !slices.Equal(members(k, x), members(k, x-1))
}

// tuples yields all lists of a length whose elements are of a pool.
func tuples[T any](pool []T, length int) iter.Seq[[]T] {
	total := 1
	for range length {
		total *= len(pool)
	}
	return func(yield func([]T) bool) {
		for number := range total {
			l := make([]T, length)
			for i := range l {
				l[i] = pool[number%len(pool)]
				number /= len(pool)
			}
			if !yield(l) {
				return
			}
		}
	}
}

// line is some cells in ascending order, each one directly behind the one before it, which have all numbers. A set of cells is a number with a bit for each.
type line []api.Interval

// bottom returns the line of the least numbers, one of each cell, and all numbers behind them.
func bottom(count uint64) line {
	var l line
	for x := range count {
		l = append(l, iv(x, x))
	}
	return append(l, iv(count, greatest))
}

// top returns the line of the greatest numbers, one of each cell, and all numbers in front of them.
func top(count uint64) line {
	l := line{iv(0, greatest-count)}
	for x := range count {
		l = append(l, iv(greatest-count+1+x, greatest-count+1+x))
	}
	return l
}

// both returns the line of the least number, of the greatest one, and of those between them.
func both() line {
	return line{iv(0, 0), iv(1, 1<<63), iv(1<<63+1, greatest-1), iv(greatest, greatest)}
}

// list returns the list of a set: one interval for each run of cells.
func (l line) list(set uint) api.Ranges {
	var r api.Ranges
	for i, cell := range l {
		switch {
		case set>>i&1 == 0:
		case i > 0 && set>>(i-1)&1 == 1:
			r[len(r)-1].Hi = cell.Hi
		default:
			r = append(r, cell)
		}
	}
	return r
}

// sets returns all sets of the cells.
func (l line) sets() []uint {
	var sets []uint
	for set := range uint(1) << len(l) {
		sets = append(sets, set)
	}
	return sets
}

// up returns the set of the cells up to one.
func up(cell int) uint { return 1<<(cell+1) - 1 }

// space is some replicas in ascending order, and the cells of items and of counters.
type space struct {
	items    line
	replicas []uint64
	counters line
}

// part is a correct fragment of a space, with the set of its items, and the set of the counters that are known of each replica.
type part struct {
	api.Fragment
	items uint
	known []uint
}

// vectors returns parts without items: with all correct vectors of a space, also those whose Max is in a hole.
func (s space) vectors() []part {
	all := []part{{}}
	for _, replica := range s.replicas {
		var longer []part
		for _, p := range all {
			longer = append(longer, part{p.Fragment, 0, append(slices.Clip(p.known), 0)})
			for last, cell := range s.counters {
				for holes := range up(last) + 1 {
					e := of(replica, cell.Hi, s.counters.list(holes)...)
					f := on(nil, append(slices.Clip(p.Vector), e)...)
					longer = append(longer, part{f, 0, append(slices.Clip(p.known), up(last)&^holes)})
				}
			}
		}
		all = longer
	}
	return all
}

// with returns a part with the vector of another one, and a set of items.
func (s space) with(p part, set uint) part {
	return part{on(s.items.list(set), p.Vector...), set, p.known}
}

// parts returns all correct fragments of a space.
func (s space) parts() []part {
	var all []part
	for _, set := range s.items.sets() {
		for _, p := range s.vectors() {
			all = append(all, s.with(p, set))
		}
	}
	return all
}

// canonical returns the canonical vector by which a set of counters of each replica is known.
func (s space) canonical(known []uint) api.Vector {
	var v api.Vector
	for i, set := range known {
		if set != 0 {
			last := bits.Len(set) - 1
			v = append(v, of(s.replicas[i], s.counters[last].Hi, s.counters.list(up(last)&^set)...))
		}
	}
	return v
}

// knowledge returns the fragments of parts.
func knowledge(parts []part) api.Knowledge {
	var k api.Knowledge
	for _, p := range parts {
		k = append(k, p.Fragment)
	}
	return k
}

// in returns the indices of the parts with a cell of items, and the counters of each replica that are known for it.
func (s space) in(parts []part, cell int) (indices []int, known []uint) {
	known = make([]uint, len(s.replicas))
	for i, p := range parts {
		if p.items>>cell&1 == 0 {
			continue
		}
		indices = append(indices, i)
		for r, set := range p.known {
			known[r] |= set
		}
	}
	return indices, known
}

// refinement returns the starts and the refinement of parts, going through the cells of items.
func (s space) refinement(parts []part) (starts []uint64, refined api.Knowledge) {
	var before []int
	for i, cell := range s.items {
		now, known := s.in(parts, i)
		begins := i == 0 || !slices.Equal(now, before)
		if begins {
			starts = append(starts, cell.Lo)
		}
		switch {
		case len(now) == 0:
		case begins:
			refined = append(refined, on(list(cell), s.canonical(known)...))
		default:
			refined[len(refined)-1].Items[0].Hi = cell.Hi
		}
		before = now
	}
	return starts, refined
}

// numbers returns the numbers of a vector, as the document says it.
func numbers(v api.Vector) []uint64 {
	l := []uint64{uint64(len(v))}
	for _, e := range v {
		l = append(l, e.Replica, e.Max, uint64(len(e.Holes)))
		for _, hole := range e.Holes {
			l = append(l, hole.Lo, hole.Hi)
		}
	}
	return l
}

// grouping returns the grouping of parts, going through the cells of items. No cell is in two parts.
func (s space) grouping(parts []part) api.Knowledge {
	var vectors []api.Vector
	var sets []uint
	for i := range s.items {
		_, known := s.in(parts, i)
		v := s.canonical(known)
		if len(v) == 0 {
			continue
		}
		at := slices.IndexFunc(vectors, func(w api.Vector) bool { return sameVector(v, w) })
		if at < 0 {
			at = len(vectors)
			vectors, sets = append(vectors, v), append(sets, 0)
		}
		sets[at] |= 1 << i
	}
	var groups api.Knowledge
	for i, v := range vectors {
		groups = append(groups, on(s.items.list(sets[i]), v...))
	}
	slices.SortFunc(groups, func(f, g api.Fragment) int { return slices.Compare(numbers(f.Vector), numbers(g.Vector)) })
	return groups
}

// pieces returns the pieces of a refinement.
func pieces(refined api.Knowledge) api.Ranges {
	var l api.Ranges
	for _, f := range refined {
		l = append(l, f.Items...)
	}
	return l
}

// checkPieces checks the starts and the pieces of knowledge.
func checkPieces(t *testing.T, k api.Knowledge, starts []uint64, pieces api.Ranges) {
	t.Helper()
	if got := atoms.Starts(k); !slices.Equal(got, starts) {
		t.Errorf("Starts(%v) = %v, want %v", k, got, starts)
	}
	if got := atoms.Pieces(k); !slices.Equal(got, pieces) {
		t.Errorf("Pieces(%v) = %v, want %v", k, got, pieces)
	}
}

// checkRefine checks the refinement of knowledge, and that it is its own refinement.
func checkRefine(t *testing.T, k, want api.Knowledge) {
	t.Helper()
	got := atoms.Refine(k)
	if !same(got, want) {
		t.Errorf("Refine(%v) = %v, want %v", k, got, want)
	}
	if again := atoms.Refine(got); !same(again, got) {
		t.Errorf("Refine(%v) = %v", got, again)
	}
}

// checkGroup checks the grouping of knowledge, and that it is its own grouping.
func checkGroup(t *testing.T, k, want api.Knowledge) {
	t.Helper()
	got := atoms.Group(k)
	if !same(got, want) {
		t.Errorf("Group(%v) = %v, want %v", k, got, want)
	}
	if again := atoms.Group(got); !same(again, got) {
		t.Errorf("Group(%v) = %v", got, again)
	}
}

// parse returns the list of a text.
func parse(t *testing.T, text string) api.Ranges {
	t.Helper()
	l, err := ranges.Parse(text)
	if err != nil {
		t.Fatal(text, err)
	}
	return l
}

// max64 is the text of the greatest number.
const max64 = "18446744073709551615"

func TestP12_1Starts(t *testing.T) {
	for _, c := range []struct {
		name   string
		lists  []string
		starts []uint64
		pieces api.Ranges
	}{
		{"no fragment", nil, []uint64{0}, nil},
		{"no items", []string{"none"}, []uint64{0}, nil},
		{"no items of several fragments", []string{"none", "none", "none"}, []uint64{0}, nil},
		{"one interval", []string{"3-7"}, []uint64{0, 3, 8}, list(iv(3, 7))},
		{"one number", []string{"3"}, []uint64{0, 3, 4}, list(iv(3, 3))},
		{"the item 0", []string{"0"}, []uint64{0, 1}, list(iv(0, 0))},
		{"the item 1", []string{"1"}, []uint64{0, 1, 2}, list(iv(1, 1))},
		{"from the item 0 on", []string{"0-4"}, []uint64{0, 5}, list(iv(0, 4))},
		{"from the item 1 on", []string{"1-" + max64}, []uint64{0, 1}, list(iv(1, greatest))},
		{"the greatest item", []string{max64}, []uint64{0, greatest}, list(iv(greatest, greatest))},
		{"the item in front of the greatest one", []string{"18446744073709551614"}, []uint64{0, greatest - 1, greatest}, list(iv(greatest-1, greatest-1))},
		{"up to the item in front of the greatest one", []string{"0-18446744073709551614"}, []uint64{0, greatest}, list(iv(0, greatest-1))},
		{"up to the greatest item", []string{"5-" + max64}, []uint64{0, 5}, list(iv(5, greatest))},
		{"the least and the greatest item", []string{"0," + max64}, []uint64{0, 1, greatest}, list(iv(0, 0), iv(greatest, greatest))},
		{"all items", []string{"0-" + max64}, []uint64{0}, list(iv(0, greatest))},
		{"all items twice", []string{"0-" + max64, "0-" + max64}, []uint64{0}, list(iv(0, greatest))},
		{"all items and some", []string{"0-" + max64, "4-6"}, []uint64{0, 4, 7}, list(iv(0, 3), iv(4, 6), iv(7, greatest))},
		{"some items and all", []string{"0", "0-" + max64, max64}, []uint64{0, 1, greatest}, list(iv(0, 0), iv(1, greatest-1), iv(greatest, greatest))},
		{"a gap of one number", []string{"1-3,5-9"}, []uint64{0, 1, 4, 5, 10}, list(iv(1, 3), iv(5, 9))},
		{"a gap of one number in all fragments", []string{"1-3,5-9", "1-3,5-9"}, []uint64{0, 1, 4, 5, 10}, list(iv(1, 3), iv(5, 9))},
		{"a gap of one number that is in another fragment", []string{"1-3,5-9", "4"}, []uint64{0, 1, 4, 5, 10}, list(iv(1, 3), iv(4, 4), iv(5, 9))},
		{"gaps of one number across", []string{"0,2,4", "1,3,5"}, []uint64{0, 1, 2, 3, 4, 5, 6}, list(iv(0, 0), iv(1, 1), iv(2, 2), iv(3, 3), iv(4, 4), iv(5, 5))},
		{"overlapping", []string{"1-5", "4-9"}, []uint64{0, 1, 4, 6, 10}, list(iv(1, 3), iv(4, 5), iv(6, 9))},
		{"meeting in one number", []string{"1-5", "5-9"}, []uint64{0, 1, 5, 6, 10}, list(iv(1, 4), iv(5, 5), iv(6, 9))},
		{"touching", []string{"1-5", "6-9"}, []uint64{0, 1, 6, 10}, list(iv(1, 5), iv(6, 9))},
		{"touching in descending order", []string{"6-9", "1-5"}, []uint64{0, 1, 6, 10}, list(iv(1, 5), iv(6, 9))},
		{"touching at both ends", []string{"4-5", "1-3,6-9"}, []uint64{0, 1, 4, 6, 10}, list(iv(1, 3), iv(4, 5), iv(6, 9))},
		{"apart by one number", []string{"1-4", "6-9"}, []uint64{0, 1, 5, 6, 10}, list(iv(1, 4), iv(6, 9))},
		{"apart in descending order", []string{"20-30", "11-12", "4-6"}, []uint64{0, 4, 7, 11, 13, 20, 31}, list(iv(4, 6), iv(11, 12), iv(20, 30))},
		{"the same items", []string{"2-4,7", "2-4,7"}, []uint64{0, 2, 5, 7, 8}, list(iv(2, 4), iv(7, 7))},
		{"one within the other", []string{"1-9", "4-5"}, []uint64{0, 1, 4, 6, 10}, list(iv(1, 3), iv(4, 5), iv(6, 9))},
		{"one within the other at its beginning", []string{"1-9", "1-5"}, []uint64{0, 1, 6, 10}, list(iv(1, 5), iv(6, 9))},
		{"one within the other at its end", []string{"5-9", "1-9"}, []uint64{0, 1, 5, 10}, list(iv(1, 4), iv(5, 9))},
		{"one in the gap of the other", []string{"1-3,8-9", "5-6"}, []uint64{0, 1, 4, 5, 7, 8, 10}, list(iv(1, 3), iv(5, 6), iv(8, 9))},
		{"beginning together", []string{"3-4", "3-6", "3-8"}, []uint64{0, 3, 5, 7, 9}, list(iv(3, 4), iv(5, 6), iv(7, 8))},
		{"ending together", []string{"3-8", "5-8", "7-8"}, []uint64{0, 3, 5, 7, 9}, list(iv(3, 4), iv(5, 6), iv(7, 8))},
		{"two end where two begin", []string{"1-4", "5-9", "2-4", "5-7"}, []uint64{0, 1, 2, 5, 8, 10}, list(iv(1, 1), iv(2, 4), iv(5, 7), iv(8, 9))},
		{"nothing changes around a third fragment", []string{"1-4", "5-9", "0-20"}, []uint64{0, 1, 5, 10, 21}, list(iv(0, 0), iv(1, 4), iv(5, 9), iv(10, 20))},
		{"as many fragments on both sides", []string{"0-4", "5-9", "0-4", "5-9"}, []uint64{0, 5, 10}, list(iv(0, 4), iv(5, 9))},
		{"beside fragments without items", []string{"none", "1-5", "none", "4-9", "none"}, []uint64{0, 1, 4, 6, 10}, list(iv(1, 3), iv(4, 5), iv(6, 9))},
		{"touching at the greatest number", []string{"0-18446744073709551614", max64}, []uint64{0, greatest}, list(iv(0, greatest-1), iv(greatest, greatest))},
		{"touching at the number 0", []string{"1-" + max64, "0"}, []uint64{0, 1}, list(iv(0, 0), iv(1, greatest))},
	} {
		t.Run(c.name, func(t *testing.T) {
			var bare, known, alike api.Knowledge
			for i, text := range c.lists {
				items := parse(t, text)
				bare = append(bare, on(items))
				known = append(known, on(items, of(uint64(i), 3)))
				alike = append(alike, on(items, of(7, 5, iv(2, 3))))
			}
			// Vectors make no difference: not if they are empty, and not if they are the same.
			for _, k := range []api.Knowledge{bare, known, alike} {
				checkPieces(t, k, c.starts, c.pieces)
				slices.Reverse(k)
				checkPieces(t, k, c.starts, c.pieces)
			}
		})
	}
	checkPieces(t, api.Knowledge{}, []uint64{0}, nil)
	checkPieces(t, api.Knowledge{{Items: api.Ranges{}, Vector: api.Vector{}}}, []uint64{0}, nil)
	checkPieces(t, api.Knowledge{on(nil, of(1, 2)), {}}, []uint64{0}, nil)
}

// lines are lines at both ends of all numbers, and over all of them.
func lines(count uint64) []line { return []line{bottom(count), top(count), both()} }

// All sets of items, of up to three fragments.
func TestP12_1AllItems(t *testing.T) {
	for _, l := range lines(4) {
		s := space{items: l}
		for count := range 4 {
			for sets := range tuples(l.sets(), count) {
				var parts []part
				for _, set := range sets {
					parts = append(parts, s.with(part{}, set))
				}
				starts, refined := s.refinement(parts)
				checkPieces(t, knowledge(parts), starts, pieces(refined))
			}
		}
	}
}

// spots are numbers around which items are.
var spots = []uint64{0, 100, 1 << 32, 1 << 63, greatest - 20}

// randomItems returns a correct list of items that are in small intervals around the spots.
func randomItems(random *rand.Rand) api.Ranges {
	var l api.Ranges
	for _, spot := range spots {
		// The list is correct if its intervals lie apart by at least one number.
		for lo := spot + uint64(random.Intn(8)); lo >= spot && lo-spot < 18 && random.Intn(4) > 0; {
			hi := lo + uint64(random.Intn(4))
			l = append(l, iv(lo, hi))
			lo = hi + 2 + uint64(random.Intn(4))
		}
	}
	return l
}

// randomVector returns a correct vector of small numbers.
func randomVector(random *rand.Rand) api.Vector {
	var v api.Vector
	for replica := range uint64(4) {
		if random.Intn(2) == 0 {
			continue
		}
		e := of(replica, uint64(random.Intn(8)))
		for lo := uint64(random.Intn(6)); lo <= e.Max; lo += 2 + uint64(random.Intn(3)) {
			e.Holes = append(e.Holes, iv(lo, lo))
		}
		v = append(v, e)
	}
	return v
}

// randomKnowledge returns correct knowledge with a number of fragments.
func randomKnowledge(random *rand.Rand, count int) api.Knowledge {
	var k api.Knowledge
	for range count {
		k = append(k, on(randomItems(random), randomVector(random)...))
	}
	return k
}

// near returns the numbers at, and around, which random items are.
func near() []uint64 {
	var l []uint64
	for _, spot := range spots {
		// Nothing is behind the greatest number, so the end is not compared with.
		first := spot - min(spot, 2)
		for i := range min(30, greatest-first) + 1 {
			l = append(l, first+i)
		}
	}
	return l
}

// The definition is gone through number by number.
func TestP12_1NumberByNumber(t *testing.T) {
	random := rand.New(rand.NewSource(121))
	for round := range 600 {
		k := randomKnowledge(random, round%7)
		if scope.Check(k) != nil {
			t.Fatalf("%v is not correct", k)
		}
		var starts []uint64
		for _, x := range near() {
			if isStart(k, x) {
				starts = append(starts, x)
			}
		}
		var pieces api.Ranges
		for i, start := range starts {
			last := uint64(greatest)
			if i+1 < len(starts) {
				last = starts[i+1] - 1
			}
			if len(members(k, start)) > 0 {
				pieces = append(pieces, iv(start, last))
			}
		}
		checkPieces(t, k, starts, pieces)
	}
}

// nested returns many fragments, each within the one before it.
func nested(count uint64, v func(i uint64) api.Vector) api.Knowledge {
	var k api.Knowledge
	for i := range count {
		k = append(k, on(list(iv(i, 2*count-i)), v(i)...))
	}
	return k
}

// chain returns many fragments, each one directly in front of the one before it.
func chain(count uint64, v func(i uint64) api.Vector) api.Knowledge {
	var k api.Knowledge
	for i := range count {
		k = append(k, on(list(iv(3*(count-i), 3*(count-i)+2)), v(i)...))
	}
	return k
}

func TestP12_1LongKnowledge(t *testing.T) {
	const count = 20000
	none := func(uint64) api.Vector { return nil }
	var starts []uint64
	var pieces api.Ranges
	for x := range uint64(2*count + 1) {
		// The last fragment has the three items in the middle, which are one piece.
		if x == count || x == count+1 {
			pieces[count-1].Hi = x
			continue
		}
		starts, pieces = append(starts, x), append(pieces, iv(x, x))
	}
	checkPieces(t, nested(count, none), append(starts, 2*count+1), pieces)
	starts, pieces = []uint64{0}, nil
	for lo := uint64(3); lo <= 3*count; lo += 3 {
		starts, pieces = append(starts, lo), append(pieces, iv(lo, lo+2))
	}
	checkPieces(t, chain(count, none), append(starts, 3*(count+1)), pieces)
}

func TestP12_2Refine(t *testing.T) {
	one, two := of(1, 9, iv(3, 5)), of(2, 6)
	for _, c := range []struct {
		name    string
		k, want api.Knowledge
	}{
		{"no fragment", nil, nil},
		{"no fragment, not nil", api.Knowledge{}, nil},
		{"no items", api.Knowledge{on(nil, one)}, nil},
		{"no items and no vector", api.Knowledge{{}, {Items: api.Ranges{}, Vector: api.Vector{}}}, nil},
		{"no vector", api.Knowledge{on(list(iv(1, 4)))}, api.Knowledge{on(list(iv(1, 4)))}},
		{"no vector in pieces", api.Knowledge{on(list(iv(1, 4))), on(list(iv(4, 6)))}, api.Knowledge{on(list(iv(1, 3))), on(list(iv(4, 4))), on(list(iv(5, 6)))}},
		{"one piece", api.Knowledge{on(list(iv(1, 4)), one, two)}, api.Knowledge{on(list(iv(1, 4)), one, two)}},
		{"all items", api.Knowledge{on(list(iv(0, greatest)), one, two)}, api.Knowledge{on(list(iv(0, greatest)), one, two)}},
		{"one fragment with several intervals", api.Knowledge{on(list(iv(0, 0), iv(2, 5), iv(greatest, greatest)), one)}, api.Knowledge{on(list(iv(0, 0)), one), on(list(iv(2, 5)), one), on(list(iv(greatest, greatest)), one)}},
		{"overlapping", api.Knowledge{on(list(iv(1, 5)), one), on(list(iv(4, 9)), two)}, api.Knowledge{on(list(iv(1, 3)), one), on(list(iv(4, 5)), one, two), on(list(iv(6, 9)), two)}},
		{"descending", api.Knowledge{on(list(iv(4, 9)), one), on(list(iv(1, 5)), two)}, api.Knowledge{on(list(iv(1, 3)), two), on(list(iv(4, 5)), one, two), on(list(iv(6, 9)), one)}},
		{"touching with the same vector", api.Knowledge{on(list(iv(1, 5)), one), on(list(iv(6, 9)), one)}, api.Knowledge{on(list(iv(1, 5)), one), on(list(iv(6, 9)), one)}},
		{"the same items", api.Knowledge{on(list(iv(1, 5)), two), on(list(iv(1, 5)), one)}, api.Knowledge{on(list(iv(1, 5)), one, two)}},
		{"the same fragment", api.Knowledge{on(list(iv(1, 5)), one, two), on(list(iv(1, 5)), one, two)}, api.Knowledge{on(list(iv(1, 5)), one, two)}},
		{
			"the same vector, overlapping", // The pieces are cut where the fragments are, not where the versions are.
			api.Knowledge{on(list(iv(1, 5)), one), on(list(iv(3, 9)), one)},
			api.Knowledge{on(list(iv(1, 2)), one), on(list(iv(3, 5)), one), on(list(iv(6, 9)), one)},
		},
		{
			"no vector beside others",
			api.Knowledge{on(list(iv(1, 9))), on(list(iv(3, 4)), two), on(nil, one), on(list(iv(0, 3)))},
			api.Knowledge{on(list(iv(0, 0))), on(list(iv(1, 2))), on(list(iv(3, 3)), two), on(list(iv(4, 4)), two), on(list(iv(5, 9)))},
		},
		{"Max is in a hole", api.Knowledge{on(list(iv(1, 5)), of(1, 7, iv(2, 3), iv(6, 7)), of(2, 4, iv(0, 4)), of(4, 1, iv(1, 1)))}, api.Knowledge{on(list(iv(1, 5)), of(1, 5, iv(2, 3)), of(4, 0))}},
		{
			"Max is in a hole, in several pieces",
			api.Knowledge{on(list(iv(1, 5)), of(1, 7, iv(2, 3), iv(6, 7))), on(list(iv(4, 9)), of(1, 7, iv(0, 2), iv(4, 7)))},
			api.Knowledge{on(list(iv(1, 3)), of(1, 5, iv(2, 3))), on(list(iv(4, 5)), of(1, 5, iv(2, 2))), on(list(iv(6, 9)), of(1, 3, iv(0, 2)))},
		},
		{
			"nothing known",
			api.Knowledge{on(list(iv(1, 5)), of(1, 7, iv(0, 7))), on(list(iv(3, 3), iv(9, 9)), of(1, greatest, iv(0, greatest)), of(2, 0, iv(0, 0)))},
			api.Knowledge{on(list(iv(1, 2))), on(list(iv(3, 3))), on(list(iv(4, 5))), on(list(iv(9, 9)))},
		},
		{
			"versions add up",
			api.Knowledge{on(list(iv(0, 9)), of(3, 8, iv(0, 3), iv(5, 7))), on(list(iv(0, 6)), of(3, 4, iv(2, 2))), on(list(iv(3, 9)), of(3, 7, iv(0, 1), iv(3, 4)), of(4, 0))},
			api.Knowledge{on(list(iv(0, 2)), of(3, 8, iv(2, 2), iv(5, 7))), on(list(iv(3, 6)), of(3, 8), of(4, 0)), on(list(iv(7, 9)), of(3, 8, iv(0, 1), iv(3, 3)), of(4, 0))},
		},
		{
			"replicas in any order, and the greatest numbers",
			api.Knowledge{on(list(iv(7, greatest)), of(greatest, greatest)), on(list(iv(0, greatest)), of(5, 1)), on(list(iv(0, 8)), of(0, greatest, iv(0, greatest-1)))},
			api.Knowledge{
				on(list(iv(0, 6)), of(0, greatest, iv(0, greatest-1)), of(5, 1)),
				on(list(iv(7, 8)), of(0, greatest, iv(0, greatest-1)), of(5, 1), of(greatest, greatest)),
				on(list(iv(9, greatest)), of(5, 1), of(greatest, greatest)),
			},
		},
	} {
		t.Run(c.name, func(t *testing.T) {
			checkRefine(t, c.k, c.want)
			slices.Reverse(c.k)
			checkRefine(t, c.k, c.want)
		})
	}
}

// trial is all knowledge of a space with a number of fragments.
type trial struct {
	space
	parts []part
	count int
}

// trials are those of which all knowledge is tried: of three fragments with one replica, of two with two, and of two with all numbers.
func trials() []trial {
	one := space{bottom(1), []uint64{3}, bottom(1)}
	two := space{bottom(2), []uint64{0, 2}, bottom(1)}
	high := space{top(2), []uint64{greatest}, top(2)}
	wide := space{both(), []uint64{7}, bottom(1)}
	return []trial{
		{one, one.parts(), 0}, {one, one.parts(), 1}, {one, one.parts(), 2}, {one, one.parts(), 3},
		{two, two.parts(), 1}, {two, two.parts(), 2},
		{high, high.parts(), 2}, {wide, wide.parts(), 2},
	}
}

func TestP12_2AllKnowledge(t *testing.T) {
	for _, r := range trials() {
		for parts := range tuples(r.parts, r.count) {
			starts, refined := r.refinement(parts)
			k := knowledge(parts)
			checkRefine(t, k, refined)
			checkPieces(t, k, starts, pieces(refined))
		}
	}
}

// Many fragments over few cells, so that many of them are in one piece.
func TestP12_2ManyFragments(t *testing.T) {
	random := rand.New(rand.NewSource(122))
	for _, items := range []line{bottom(1), bottom(7), top(12), both()} {
		s := space{items, []uint64{0, 1, 7, greatest}, bottom(2)}
		vectors := s.vectors()
		for count := range 70 {
			var parts []part
			for range count {
				set := uint(random.Intn(1 << len(items)))
				// Half of the sets have few cells.
				if random.Intn(2) == 0 {
					set &= uint(random.Intn(1<<len(items))) & uint(random.Intn(1<<len(items)))
				}
				parts = append(parts, s.with(vectors[random.Intn(len(vectors))], set))
			}
			_, refined := s.refinement(parts)
			checkRefine(t, knowledge(parts), refined)
		}
	}
}

// Each number of pieces, with fragments from each piece up to each other one: each of these knows a replica of its own.
func TestP12_2RunsOfPieces(t *testing.T) {
	for count := range uint64(40) {
		var k api.Knowledge
		var want api.Knowledge
		for lo := range count {
			for hi := lo; hi < count; hi++ {
				k = append(k, on(list(iv(lo, hi)), of(100*lo+hi, 0)))
			}
			want = append(want, on(list(iv(lo, lo))))
		}
		for _, f := range k {
			for x := f.Items[0].Lo; x <= f.Items[0].Hi; x++ {
				want[x].Vector = append(want[x].Vector, f.Vector...)
			}
		}
		checkRefine(t, k, want)
	}
}

// checkSameVersions checks that the same versions are known for the same items near the spots.
func checkSameVersions(t *testing.T, name string, k, got api.Knowledge) {
	t.Helper()
	for _, item := range near() {
		for replica := range uint64(5) {
			for counter := range uint64(9) {
				want := knows(k, item, replica, counter)
				if knows(got, item, replica, counter) != want || scope.Has(got, item, replica, counter) != want {
					t.Fatalf("by %v, the %s of %v, the version %d, %d is known for the item %d: %t", got, name, k, replica, counter, item, !want)
				}
			}
		}
	}
}

// Item by item and version by version: all that is known, and nothing else.
func TestP12_2VersionByVersion(t *testing.T) {
	random := rand.New(rand.NewSource(123))
	for round := range 120 {
		k := randomKnowledge(random, round%6)
		got := atoms.Refine(k)
		checkSameVersions(t, "refinement", k, got)
		// By canonical vectors of disjoint pieces in order, the refinement is the only one of these versions.
		for i, f := range got {
			if !vector.Canonical(f.Vector) || len(f.Items) != 1 || f.Items[0] != atoms.Pieces(k)[i] {
				t.Errorf("Refine(%v) has %v", k, f)
			}
		}
	}
}

// Many fragments do not take quadratic time where their pieces know little.
func TestP12_2LongKnowledge(t *testing.T) {
	const count = 5000
	got := atoms.Refine(nested(count, func(uint64) api.Vector { return api.Vector{of(1, 9, iv(4, 4))} }))
	if len(got) != 2*count-1 {
		t.Errorf("nested fragments have %d pieces", len(got))
	}
	for _, f := range got {
		if !sameVector(f.Vector, api.Vector{of(1, 9, iv(4, 4))}) {
			t.Errorf("of nested fragments, %v has another vector", f)
		}
	}
	// In the middle, all of them are known.
	got = atoms.Refine(nested(count, func(i uint64) api.Vector { return api.Vector{of(1, i)} }))
	for i, f := range got {
		last := min(i, len(got)-1-i)
		if !sameVector(f.Vector, api.Vector{of(1, uint64(last))}) {
			t.Errorf("the piece %d of nested fragments is %v", i, f)
		}
	}
	k := chain(4*count, func(i uint64) api.Vector { return api.Vector{of(1, i), of(2+i, 0)} })
	want := clone(k)
	slices.Reverse(want)
	checkRefine(t, k, want)
}

func TestP12_3Group(t *testing.T) {
	one, two, holes := of(1, 9), of(2, 6), of(1, 9, iv(3, 5))
	for _, c := range []struct {
		name    string
		k, want api.Knowledge
	}{
		{"no fragment", nil, nil},
		{"no fragment, not nil", api.Knowledge{}, nil},
		{"no items", api.Knowledge{on(nil, one), on(nil, two)}, nil},
		{"no vector", api.Knowledge{on(list(iv(1, 4))), on(list(iv(6, 7)))}, nil},
		{"no items and no vector", api.Knowledge{{}, {Items: api.Ranges{}, Vector: api.Vector{}}}, nil},
		{"nothing known", api.Knowledge{on(list(iv(1, 4)), of(1, 4, iv(0, 4))), on(list(iv(6, 7)), of(1, greatest, iv(0, greatest)), of(2, 0, iv(0, 0)))}, nil},
		{"one fragment", api.Knowledge{on(list(iv(1, 4), iv(6, 7)), holes, two)}, api.Knowledge{on(list(iv(1, 4), iv(6, 7)), holes, two)}},
		{"all items", api.Knowledge{on(list(iv(0, greatest)), holes, two)}, api.Knowledge{on(list(iv(0, greatest)), holes, two)}},
		{"one fragment that is left", api.Knowledge{{}, on(nil, one), on(list(iv(5, 5))), on(list(iv(1, 2)), two), on(list(iv(0, 0)), of(1, 0, iv(0, 0)))}, api.Knowledge{on(list(iv(1, 2)), two)}},
		{"the same vector, apart", api.Knowledge{on(list(iv(1, 3)), one), on(list(iv(5, 6)), one)}, api.Knowledge{on(list(iv(1, 3), iv(5, 6)), one)}},
		{"the same vector, touching", api.Knowledge{on(list(iv(1, 3)), one), on(list(iv(4, 6)), one)}, api.Knowledge{on(list(iv(1, 6)), one)}},
		{"the same vector, across", api.Knowledge{on(list(iv(0, 0), iv(2, 2), iv(5, 5)), one), on(list(iv(1, 1), iv(3, 3), iv(7, 7)), one)}, api.Knowledge{on(list(iv(0, 3), iv(5, 5), iv(7, 7)), one)}},
		{"the same vector, and all items", api.Knowledge{on(list(iv(0, 0), iv(greatest, greatest)), one), on(list(iv(1, greatest-1)), one)}, api.Knowledge{on(list(iv(0, greatest)), one)}},
		{"other vectors, touching", api.Knowledge{on(list(iv(1, 3)), one), on(list(iv(4, 6)), two)}, api.Knowledge{on(list(iv(1, 3)), one), on(list(iv(4, 6)), two)}},
		{"the order of vectors is another one", api.Knowledge{on(list(iv(1, 3)), two), on(list(iv(4, 6)), one)}, api.Knowledge{on(list(iv(4, 6)), one), on(list(iv(1, 3)), two)}},
		{
			"two vectors by turns",
			api.Knowledge{on(list(iv(9, 9)), two), on(list(iv(7, 8)), one), on(list(iv(4, 6)), two), on(list(iv(2, 3)), one), on(list(iv(0, 0)), two)},
			api.Knowledge{on(list(iv(2, 3), iv(7, 8)), one), on(list(iv(0, 0), iv(4, 6), iv(9, 9)), two)},
		},
		{
			"vectors that differ only in their form",
			api.Knowledge{
				on(list(iv(6, 6)), of(0, 0, iv(0, 0)), one),
				on(list(iv(1, 1)), of(1, 12, iv(10, 12))),
				on(list(iv(3, 3)), one, of(5, 5, iv(0, 5))),
				on(list(iv(2, 2)), one),
				on(list(iv(5, 5)), of(1, greatest, iv(10, greatest)), of(greatest, 0, iv(0, 0))),
			},
			api.Knowledge{on(list(iv(1, 3), iv(5, 6)), one)},
		},
		{"the canonical form decides the order", api.Knowledge{on(list(iv(1, 1)), of(1, 9)), on(list(iv(2, 2)), of(0, 3, iv(0, 3)), of(1, 20, iv(5, 20)))}, api.Knowledge{on(list(iv(2, 2)), of(1, 4)), on(list(iv(1, 1)), of(1, 9))}},
		{"one vector is the beginning of another one", api.Knowledge{on(list(iv(1, 1)), one, two, of(3, 0)), on(list(iv(2, 2)), one), on(list(iv(3, 3)), one, two)}, api.Knowledge{on(list(iv(2, 2)), one), on(list(iv(3, 3)), one, two), on(list(iv(1, 1)), one, two, of(3, 0))}},
		{"the count of entries comes first", api.Knowledge{on(list(iv(1, 1)), of(0, 0), of(1, 0)), on(list(iv(2, 2)), of(greatest, greatest))}, api.Knowledge{on(list(iv(2, 2)), of(greatest, greatest)), on(list(iv(1, 1)), of(0, 0), of(1, 0))}},
		{
			"holes are the beginning of others",
			api.Knowledge{on(list(iv(1, 1)), of(1, 9, iv(3, 5), iv(7, 7))), on(list(iv(2, 2)), holes), on(list(iv(3, 3)), one), on(list(iv(4, 4)), of(1, 9, iv(3, 4)))},
			api.Knowledge{on(list(iv(3, 3)), one), on(list(iv(4, 4)), of(1, 9, iv(3, 4))), on(list(iv(2, 2)), holes), on(list(iv(1, 1)), of(1, 9, iv(3, 5), iv(7, 7)))},
		},
		{
			"numbers with the highest bit",
			api.Knowledge{on(list(iv(1, 1)), of(greatest, 0)), on(list(iv(2, 2)), of(1<<63, 0)), on(list(iv(3, 3)), of(1<<63-1, 0)), on(list(iv(4, 4)), of(0, greatest))},
			api.Knowledge{on(list(iv(4, 4)), of(0, greatest)), on(list(iv(3, 3)), of(1<<63-1, 0)), on(list(iv(2, 2)), of(1<<63, 0)), on(list(iv(1, 1)), of(greatest, 0))},
		},
	} {
		t.Run(c.name, func(t *testing.T) {
			checkGroup(t, c.k, c.want)
			slices.Reverse(c.k)
			checkGroup(t, c.k, c.want)
		})
	}
}

// assignments yields the sets of a number of fragments in all ways in which no cell of a line is in two of them.
func (l line) assignments(count int) iter.Seq[[]uint] {
	var owners []int
	for owner := range count + 1 {
		owners = append(owners, owner)
	}
	return func(yield func([]uint) bool) {
		for owned := range tuples(owners, len(l)) {
			// The last set has the cells that no fragment has.
			sets := make([]uint, count+1)
			for cell, owner := range owned {
				sets[owner] |= 1 << cell
			}
			if !yield(sets[:count]) {
				return
			}
		}
	}
}

// All knowledge of small spaces in which no item is in two fragments.
func TestP12_3AllKnowledge(t *testing.T) {
	one := space{bottom(2), []uint64{3}, bottom(1)}
	two := space{bottom(1), []uint64{0, greatest}, bottom(1)}
	high := space{top(2), []uint64{1}, top(2)}
	wide := space{both(), []uint64{7}, bottom(0)}
	for _, c := range []struct {
		space
		count int
	}{{one, 0}, {one, 1}, {one, 2}, {one, 3}, {two, 1}, {two, 2}, {high, 2}, {wide, 4}} {
		for vectors := range tuples(c.vectors(), c.count) {
			for sets := range c.items.assignments(c.count) {
				var parts []part
				for i, set := range sets {
					parts = append(parts, c.with(vectors[i], set))
				}
				checkGroup(t, knowledge(parts), c.grouping(parts))
			}
		}
	}
}

// Many fragments with vectors that are alike, in any order.
func TestP12_3ManyFragments(t *testing.T) {
	random := rand.New(rand.NewSource(124))
	for _, items := range []line{bottom(30), top(40), both()} {
		s := space{items, []uint64{0, 1, 7, greatest}, bottom(2)}
		vectors := s.vectors()
		for different := 1; different < 30; different++ {
			parts := make([]part, 20+random.Intn(20))
			sets := make([]uint, len(parts))
			for cell := range items {
				// Some cells are in no fragment.
				if owner := random.Intn(len(parts) + 5); owner < len(parts) {
					sets[owner] |= 1 << cell
				}
			}
			first := random.Intn(len(vectors) - different)
			for i, set := range sets {
				parts[i] = s.with(vectors[first+random.Intn(different)], set)
			}
			checkGroup(t, knowledge(parts), s.grouping(parts))
		}
	}
}

// Item by item and version by version: all that is known, and nothing else.
func TestP12_3VersionByVersion(t *testing.T) {
	random := rand.New(rand.NewSource(125))
	for round := range 120 {
		// In a refinement, no item is in two fragments.
		k := atoms.Refine(randomKnowledge(random, round%6))
		random.Shuffle(len(k), func(i, j int) { k[i], k[j] = k[j], k[i] })
		got := atoms.Group(k)
		checkSameVersions(t, "grouping", k, got)
		for i, f := range got {
			if len(f.Items) == 0 || ranges.Check(f.Items) != nil || len(f.Vector) == 0 || !vector.Canonical(f.Vector) {
				t.Errorf("Group(%v) has %v", k, f)
			}
			if i > 0 && slices.Compare(numbers(got[i-1].Vector), numbers(f.Vector)) >= 0 {
				t.Errorf("Group(%v) = %v: the vectors do not ascend", k, got)
			}
		}
	}
}

func TestP12_3LongKnowledge(t *testing.T) {
	const count = 20000
	// All vectors are different, and their order is that of the fragments, or the other one.
	k := chain(count, func(i uint64) api.Vector { return api.Vector{of(1, i)} })
	checkGroup(t, k, k)
	reversed := clone(k)
	slices.Reverse(reversed)
	checkGroup(t, reversed, k)
	// All vectors are the same.
	k = chain(count, func(uint64) api.Vector { return api.Vector{of(1, 5)} })
	checkGroup(t, k, api.Knowledge{on(list(iv(3, 3*count+2)), of(1, 5))})
	// Two vectors by turns.
	k = chain(count, func(i uint64) api.Vector { return api.Vector{of(1, i%2)} })
	want := api.Knowledge{on(nil, of(1, 0)), on(nil, of(1, 1))}
	for i := range k {
		f := k[len(k)-1-i]
		side := &want[f.Vector[0].Max]
		side.Items = append(side.Items, f.Items...)
	}
	checkGroup(t, k, want)
}

// Refining and grouping one after the other, again and again.
func TestP12_4Again(t *testing.T) {
	random := rand.New(rand.NewSource(126))
	for round := range 400 {
		k := randomKnowledge(random, round%8)
		refined := atoms.Refine(k)
		if again := atoms.Refine(refined); !same(again, refined) {
			t.Errorf("Refine(%v) = %v", refined, again)
		}
		if starts := atoms.Starts(refined); !slices.Equal(starts, atoms.Starts(k)) {
			t.Errorf("Starts(%v) = %v", refined, starts)
		}
		if got := atoms.Pieces(refined); !slices.Equal(got, atoms.Pieces(k)) {
			t.Errorf("Pieces(%v) = %v", refined, got)
		}
		grouped := atoms.Group(refined)
		if again := atoms.Group(grouped); !same(again, grouped) {
			t.Errorf("Group(%v) = %v", grouped, again)
		}
		// Neither the order of the fragments nor another refinement in between makes a difference.
		if other := atoms.Group(atoms.Refine(grouped)); !same(other, grouped) {
			t.Errorf("Group(Refine(%v)) = %v", grouped, other)
		}
		random.Shuffle(len(k), func(i, j int) { k[i], k[j] = k[j], k[i] })
		if other := atoms.Refine(k); !same(other, refined) {
			t.Errorf("Refine(%v) = %v, want %v", k, other, refined)
		}
		shuffled := slices.Clone(refined)
		random.Shuffle(len(shuffled), func(i, j int) { shuffled[i], shuffled[j] = shuffled[j], shuffled[i] })
		if other := atoms.Refine(shuffled); !same(other, refined) {
			t.Errorf("Refine(%v) = %v", shuffled, other)
		}
		if other := atoms.Group(shuffled); !same(other, grouped) {
			t.Errorf("Group(%v) = %v, want %v", shuffled, other, grouped)
		}
	}
}

// A grouping of a refinement has all that is known: what two lists of fragments know alike is grouped alike.
func TestP12_4OneFormOfEachSet(t *testing.T) {
	s := space{bottom(2), []uint64{3}, bottom(1)}
	forms := map[string]api.Knowledge{}
	for parts := range tuples(s.parts(), 2) {
		key := ""
		for cell := range s.items {
			_, known := s.in(parts, cell)
			key += strconv.Itoa(int(known[0]))
		}
		got := atoms.Group(atoms.Refine(knowledge(parts)))
		if form, ok := forms[key]; ok && !same(got, form) {
			t.Errorf("the same versions are known by %v and by %v", form, got)
		}
		forms[key] = got
	}
	if len(forms) != 4*4*4 {
		t.Errorf("there are %d sets", len(forms))
	}
}

func TestExampleOfTheChapter(t *testing.T) {
	k := api.Knowledge{on(list(iv(1, 5)), of(1, 3)), on(list(iv(4, 9)), of(2, 0))}
	checkPieces(t, k, []uint64{0, 1, 4, 6, 10}, list(iv(1, 3), iv(4, 5), iv(6, 9)))
	checkRefine(t, k, api.Knowledge{on(list(iv(1, 3)), of(1, 3)), on(list(iv(4, 5)), of(1, 3), of(2, 0)), on(list(iv(6, 9)), of(2, 0))})
}

// anyLists are lists that are correct, and others.
func anyLists() []api.Ranges {
	return []api.Ranges{
		nil, list(iv(1, 3)), list(iv(2, 1)), list(iv(1, 1), iv(2, 2)), list(iv(2, 3), iv(0, 1)), list(iv(0, greatest), iv(greatest, 0)), list(iv(0, 0), iv(2, greatest)), list(iv(1, 3), iv(1, 3)),
	}
}

// P1: no argument makes a function panic or run on, not even knowledge that is not correct.
func TestP1AllKnowledge(t *testing.T) {
	var fragments []api.Fragment
	for _, items := range anyLists() {
		for _, holes := range anyLists() {
			fragments = append(fragments, on(items, of(5, 3, holes...)), on(items, of(5, 2), of(7, 2, holes...)))
		}
		fragments = append(fragments, on(items), on(items, of(5, 3), of(5, 3)), on(items, of(greatest, 3), of(0, greatest)))
	}
	var many api.Knowledge
	for x := range uint64(200) {
		many = append(many, on(list(iv(x, x), iv(x, x), iv(x+1, 0)), of(5, x, iv(x, x), iv(x, x), iv(x+1, 0)), of(greatest-x, 9)))
	}
	run := func(k api.Knowledge) {
		atoms.Starts(k)
		atoms.Pieces(k)
		atoms.Refine(k)
		atoms.Group(k)
	}
	run(many)
	for count := range 3 {
		for k := range tuples(fragments, count) {
			run(k)
		}
	}
}

// Group of correct knowledge whose items meet is not specified, but ends.
func TestP1GroupOfItemsThatMeet(t *testing.T) {
	s := space{bottom(2), []uint64{3}, bottom(1)}
	for parts := range tuples(s.parts(), 2) {
		atoms.Group(knowledge(parts))
	}
}

// overwriteList changes all memory of a list, also behind its end.
func overwriteList(l api.Ranges) {
	l = l[:cap(l)]
	for i := range l {
		l[i] = iv(78, 78)
	}
}

// overwriteVector changes all memory of a vector: its entries and their holes.
func overwriteVector(v api.Vector) {
	v = v[:cap(v)]
	for i := range v {
		overwriteList(v[i].Holes)
		v[i] = of(77, 77, iv(77, 77))
	}
}

// overwrite changes all memory of knowledge: its fragments, and all that they have.
func overwrite(k api.Knowledge) {
	k = k[:cap(k)]
	for i := range k {
		overwriteList(k[i].Items)
		overwriteVector(k[i].Vector)
		k[i] = on(list(iv(76, 76)), of(76, 76))
	}
}

// fields returns the places of all numbers of knowledge.
func fields(k api.Knowledge) []*uint64 {
	var l []*uint64
	ofList := func(r api.Ranges) {
		for i := range r {
			l = append(l, &r[i].Lo, &r[i].Hi)
		}
	}
	for _, f := range k {
		ofList(f.Items)
		for i := range f.Vector {
			l = append(l, &f.Vector[i].Replica, &f.Vector[i].Max)
			ofList(f.Vector[i].Holes)
		}
	}
	return l
}

// sample returns knowledge with several fragments, intervals, entries and holes, in which no item is in two fragments, and whose parts share memory.
func sample() api.Knowledge {
	holes := list(iv(1, 1), iv(3, 5))
	v := api.Vector{of(1, 9, holes...), of(4, 12, holes...), of(6, 5, holes...)}
	items := list(iv(1, 3), iv(5, 8), iv(10, 10), iv(20, 29), iv(40, 44))
	return api.Knowledge{
		on(items[1:2], v[:2]...), on(items[3:], v...), on(items[:1], v[:2]...), on(items[2:3], v[1:]...), on(nil, v...), on(list(iv(50, 51))),
	}
}

// crossing returns knowledge like the sample, in which items are in several fragments.
func crossing() api.Knowledge {
	k := sample()
	return append(k, on(list(iv(2, 6), iv(27, greatest)), k[0].Vector...), on(list(iv(0, 60)), of(1, 7, iv(0, 6)), of(9, 20, iv(0, 4), iv(8, 11))), on(k[1].Items, k[1].Vector...))
}

// Rule 4: no argument is changed, nothing behind its end is read or changed, and no result shares memory with it.
func TestArgumentsStay(t *testing.T) {
	for _, memory := range []api.Knowledge{sample(), crossing()} {
		before := clone(memory)
		for count := range len(memory) + 1 {
			k, fresh := memory[:count], clone(before[:count])
			refined, grouped := atoms.Refine(k), atoms.Group(k)
			if want := atoms.Refine(fresh); !same(refined, want) {
				t.Errorf("what is behind the end of %v makes %v of its refinement, not %v", k, refined, want)
			}
			if want := atoms.Group(fresh); !same(grouped, want) {
				t.Errorf("what is behind the end of %v makes %v of its grouping, not %v", k, grouped, want)
			}
			overwrite(refined)
			overwrite(grouped)
			starts, pieces := atoms.Starts(k), atoms.Pieces(k)
			if !slices.Equal(starts, atoms.Starts(fresh)) || !slices.Equal(pieces, atoms.Pieces(fresh)) {
				t.Errorf("what is behind the end of %v makes %v and %v of its starts and pieces", k, starts, pieces)
			}
			clear(starts[:cap(starts)])
			overwriteList(pieces)
			if !same(memory, before) {
				t.Fatalf("a function, or a change of its result, makes %v of %v", memory, before)
			}
		}
	}
}

// Fragments that are as in a result already are copied, too.
func TestArgumentsAreCopied(t *testing.T) {
	for _, result := range []func(k api.Knowledge) api.Knowledge{atoms.Refine, atoms.Group} {
		k := result(sample())
		want := clone(k)
		for i := range fields(k) {
			got := result(k)
			*fields(k)[i] += 1000
			if !same(got, want) {
				t.Errorf("a change of the number %d makes %v of a result that was %v", i, got, want)
			}
			*fields(k)[i] -= 1000
			*fields(got)[i] += 1000
			if !same(k, want) {
				t.Errorf("a change of the number %d of a result makes %v of %v", i, k, want)
			}
		}
	}
}

// P2 and rule 4: a result stays as it is when the argument or another result changes.
func TestP2Independent(t *testing.T) {
	for _, make := range []func() api.Knowledge{sample, crossing} {
		k := make()
		starts, pieces, refined, grouped := atoms.Starts(k), atoms.Pieces(k), atoms.Refine(k), atoms.Group(k)
		wantRefined, wantGrouped := clone(refined), clone(grouped)
		other := atoms.Starts(k)
		clear(other[:cap(other)])
		overwriteList(atoms.Pieces(k))
		overwrite(atoms.Refine(k))
		overwrite(atoms.Group(k))
		overwrite(k)
		if !same(refined, wantRefined) || !same(grouped, wantGrouped) {
			t.Errorf("a change of an argument or of another result makes the results %v and %v", refined, grouped)
		}
		fresh := make()
		checkPieces(t, fresh, starts, pieces)
		checkRefine(t, fresh, refined)
		checkGroup(t, fresh, grouped)
	}
}

// No two parts of a result share memory, even if they do so in the argument.
func TestPartsOfResults(t *testing.T) {
	results := []func() api.Knowledge{
		func() api.Knowledge { return atoms.Refine(sample()) },
		func() api.Knowledge { return atoms.Refine(crossing()) },
		func() api.Knowledge { return atoms.Group(sample()) },
		func() api.Knowledge { return atoms.Group(atoms.Refine(crossing())) },
	}
	for number, result := range results {
		want := result()
		if len(fields(want)) < 30 {
			t.Errorf("the result %d is short: %v", number, want)
		}
		for i := range fields(want) {
			got, left := result(), clone(want)
			*fields(got)[i] += 1000
			*fields(left)[i] += 1000
			if !same(got, left) {
				t.Errorf("a change of the number %d of the result %d makes %v of it", i, number, got)
			}
		}
		got := result()
		for i := range got {
			_ = append(got[i].Items, iv(99, 99))
			for j := range got[i].Vector {
				_ = append(got[i].Vector[j].Holes, iv(98, 98))
			}
			_ = append(got[i].Vector, of(97, 97))
		}
		if !same(got, want) {
			t.Errorf("what is appended to parts of the result %d makes %v of it", number, got)
		}
	}
}

// Rule 7: the results are the same in each call.
func TestDeterminism(t *testing.T) {
	random := rand.New(rand.NewSource(127))
	for range 10 {
		k := randomKnowledge(random, 12)
		starts, pieces, refined := atoms.Starts(k), atoms.Pieces(k), atoms.Refine(k)
		grouped := atoms.Group(refined)
		for range 10 {
			if !slices.Equal(atoms.Starts(k), starts) || !slices.Equal(atoms.Pieces(k), pieces) || !same(atoms.Refine(k), refined) || !same(atoms.Group(refined), grouped) {
				t.Errorf("the results for %v are not always the same", k)
			}
		}
	}
}

// Rule 6: the functions may be called concurrently, also with the same knowledge.
func TestConcurrent(t *testing.T) {
	k := crossing()
	before := clone(k)
	starts, pieces, refined := atoms.Starts(k), atoms.Pieces(k), atoms.Refine(k)
	grouped := atoms.Group(refined)
	var wait sync.WaitGroup
	for range 8 {
		wait.Go(func() {
			checkPieces(t, k, starts, pieces)
			checkRefine(t, k, refined)
			checkGroup(t, refined, grouped)
		})
	}
	wait.Wait()
	if !same(k, before) {
		t.Errorf("%v is %v", before, k)
	}
}
