package know_test

import (
	"errors"
	"iter"
	"math"
	"math/bits"
	"math/rand"
	"slices"
	"sync"
	"testing"

	"kenning/api"
	"kenning/canon"
	"kenning/fault"
	"kenning/know"
	"kenning/ranges"
	"kenning/scope"
)

const greatest = math.MaxUint64

func iv(lo, hi uint64) api.Interval { return api.Interval{Lo: lo, Hi: hi} }

// list returns a list of intervals.
func list(l ...api.Interval) api.Ranges { return l }

// of returns an entry.
func of(replica, last uint64, holes ...api.Interval) api.Entry {
	return api.Entry{Replica: replica, Max: last, Holes: holes}
}

// on returns a fragment.
func on(items api.Ranges, entries ...api.Entry) api.Fragment {
	return api.Fragment{Items: items, Vector: entries}
}

// all returns the list of all numbers.
func all() api.Ranges { return list(iv(0, greatest)) }

// cloneVector returns a copy of a vector.
func cloneVector(v api.Vector) api.Vector {
	var l api.Vector
	for _, e := range v {
		l = append(l, of(e.Replica, e.Max, slices.Clone(e.Holes)...))
	}
	return l
}

// clone returns a copy of knowledge.
func clone(k api.Knowledge) api.Knowledge {
	var l api.Knowledge
	for _, f := range k {
		l = append(l, on(slices.Clone(f.Items), cloneVector(f.Vector)...))
	}
	return l
}

// sameVector compares two vectors field by field.
func sameVector(a, b api.Vector) bool {
	return slices.EqualFunc(a, b, func(e, f api.Entry) bool {
		return e.Replica == f.Replica && e.Max == f.Max && slices.Equal(e.Holes, f.Holes)
	})
}

// same compares knowledge field by field.
func same(a, b api.Knowledge) bool {
	return slices.EqualFunc(a, b, func(f, g api.Fragment) bool {
		return slices.Equal(f.Items, g.Items) && sameVector(f.Vector, g.Vector)
	})
}

// contains reports whether a number is in one of some intervals.
func contains(l api.Ranges, x uint64) bool {
	return slices.ContainsFunc(l, func(s api.Interval) bool { return s.Lo <= x && x <= s.Hi })
}

// knows reports whether a version is known for an item, as the document says it.
func knows(k api.Knowledge, item, replica, counter uint64) bool {
	return slices.ContainsFunc(k, func(f api.Fragment) bool {
		return contains(f.Items, item) && slices.ContainsFunc(f.Vector, func(e api.Entry) bool {
			return e.Replica == replica && counter <= e.Max && !contains(e.Holes, counter)
		})
	})
}

// numbers returns the numbers of a vector, as the document says it.
func numbers(v api.Vector) []uint64 {
	l := []uint64{uint64(len(v))}
	for _, e := range v {
		l = append(l, e.Replica, e.Max, uint64(len(e.Holes)))
		for _, hole := range e.Holes {
			l = append(l, hole.Lo, hole.Hi)
		}
	}
	return l
}

// correctList reports whether a list is correct, as the document says it.
func correctList(l api.Ranges) bool {
	for i, s := range l {
		if s.Lo > s.Hi || i > 0 && (s.Lo <= l[i-1].Hi || s.Lo-1 == l[i-1].Hi) {
			return false
		}
	}
	return true
}

// canonicalVector reports whether a vector is correct and canonical, as the document says it.
func canonicalVector(v api.Vector) bool {
	for i, e := range v {
		if !correctList(e.Holes) || len(e.Holes) > 0 && e.Holes[len(e.Holes)-1].Hi >= e.Max || i > 0 && v[i-1].Replica >= e.Replica {
			return false
		}
	}
	return true
}

// meets reports whether two fragments have an item in common.
func meets(f, g api.Fragment) bool {
	return slices.ContainsFunc(f.Items, func(s api.Interval) bool {
		return slices.ContainsFunc(g.Items, func(t api.Interval) bool { return s.Lo <= t.Hi && t.Lo <= s.Hi })
	})
}

// canonical reports whether knowledge is canonical, as the document says it.
func canonical(k api.Knowledge) bool {
	for i, f := range k {
		if len(f.Items) == 0 || !correctList(f.Items) || len(f.Vector) == 0 || !canonicalVector(f.Vector) {
			return false
		}
		if i > 0 && slices.Compare(numbers(k[i-1].Vector), numbers(f.Vector)) >= 0 {
			return false
		}
		if slices.ContainsFunc(k[:i], func(g api.Fragment) bool { return meets(f, g) }) {
			return false
		}
	}
	return true
}

// tuples yields all lists of a length whose elements are of a pool.
func tuples[T any](pool []T, length int) iter.Seq[[]T] {
	total := 1
	for range length {
		total *= len(pool)
	}
	return func(yield func([]T) bool) {
		for number := range total {
			l := make([]T, length)
			for i := range l {
				l[i] = pool[number%len(pool)]
				number /= len(pool)
			}
			if !yield(l) {
				return
			}
		}
	}
}

// line is some cells in ascending order, each one directly behind the one before it, which have all numbers. A set of cells is a number with a bit for each.
type line []api.Interval

// bottom returns the line of the least numbers, one of each cell, and all numbers behind them.
func bottom(count uint64) line {
	var l line
	for x := range count {
		l = append(l, iv(x, x))
	}
	return append(l, iv(count, greatest))
}

// top returns the line of the greatest numbers, one of each cell, and all numbers in front of them.
func top(count uint64) line {
	l := line{iv(0, greatest-count)}
	for x := range count {
		l = append(l, iv(greatest-count+1+x, greatest-count+1+x))
	}
	return l
}

// ends returns the line of the least number, of the greatest one, and of those between them.
func ends() line {
	return line{iv(0, 0), iv(1, 1<<63), iv(1<<63+1, greatest-1), iv(greatest, greatest)}
}

// list returns the list of a set: one interval for each run of cells.
func (l line) list(set uint) api.Ranges {
	var r api.Ranges
	for i, cell := range l {
		switch {
		case set>>i&1 == 0:
		case i > 0 && set>>(i-1)&1 == 1:
			r[len(r)-1].Hi = cell.Hi
		default:
			r = append(r, cell)
		}
	}
	return r
}

// lists returns the lists of all sets of the cells.
func (l line) lists() []api.Ranges {
	var lists []api.Ranges
	for set := range uint(1) << len(l) {
		lists = append(lists, l.list(set))
	}
	return lists
}

// up returns the set of the cells up to one.
func up(cell int) uint { return 1<<(cell+1) - 1 }

// space is some replicas in ascending order, and the cells of items and of counters. The numbers of a cell are alike in all knowledge of a space.
type space struct {
	items    line
	replicas []uint64
	counters line
}

// vectors returns all correct vectors of a space, also those whose Max is in a hole.
func (s space) vectors() []api.Vector {
	all := []api.Vector{nil}
	for _, replica := range s.replicas {
		longer := slices.Clone(all)
		for _, v := range all {
			for last, cell := range s.counters {
				for holes := range up(last) + 1 {
					longer = append(longer, append(slices.Clip(v), of(replica, cell.Hi, s.counters.list(holes)...)))
				}
			}
		}
		all = longer
	}
	return all
}

// fragments returns all correct fragments of a space.
func (s space) fragments() []api.Fragment {
	var all []api.Fragment
	for _, items := range s.items.lists() {
		for _, v := range s.vectors() {
			all = append(all, on(items, v...))
		}
	}
	return all
}

// knowledge returns all correct knowledge of a space with at most some fragments.
func (s space) knowledge(most int) []api.Knowledge {
	var all []api.Knowledge
	for count := range most + 1 {
		for k := range tuples(s.fragments(), count) {
			all = append(all, k)
		}
	}
	return all
}

// table has, for each cell of items and for each replica, the set of the counters that are known.
type table [][]uint

// table returns what is known, going through all versions.
func (s space) table(k api.Knowledge) table {
	t := make(table, len(s.items))
	for cell, items := range s.items {
		t[cell] = make([]uint, len(s.replicas))
		for i, replica := range s.replicas {
			for j, counters := range s.counters {
				if knows(k, items.Lo, replica, counters.Lo) {
					t[cell][i] |= 1 << j
				}
			}
		}
	}
	return t
}

// canonical returns the canonical vector by which a set of counters of each replica is known.
func (s space) canonical(known []uint) api.Vector {
	var v api.Vector
	for i, set := range known {
		if set != 0 {
			last := bits.Len(set) - 1
			v = append(v, of(s.replicas[i], s.counters[last].Hi, s.counters.list(up(last)&^set)...))
		}
	}
	return v
}

// form returns the canonical knowledge of a table.
func (s space) form(t table) api.Knowledge {
	var form api.Knowledge
	var sets []uint
	for cell := range s.items {
		v := s.canonical(t[cell])
		if len(v) == 0 {
			continue
		}
		i := slices.IndexFunc(form, func(f api.Fragment) bool { return sameVector(f.Vector, v) })
		if i < 0 {
			i = len(form)
			form, sets = append(form, on(nil, v...)), append(sets, 0)
		}
		sets[i] |= 1 << cell
	}
	for i, set := range sets {
		form[i].Items = s.items.list(set)
	}
	slices.SortFunc(form, func(f, g api.Fragment) int { return slices.Compare(numbers(f.Vector), numbers(g.Vector)) })
	return form
}

// forms returns the canonical knowledge of all tables of a space, which is all sets of what is known.
func (s space) forms() []api.Knowledge {
	var sets []uint
	for set := range uint(1) << len(s.counters) {
		sets = append(sets, set)
	}
	var rows [][]uint
	for row := range tuples(sets, len(s.replicas)) {
		rows = append(rows, row)
	}
	var all []api.Knowledge
	for t := range tuples(rows, len(s.items)) {
		all = append(all, s.form(t))
	}
	return all
}

// operation is a function of two arguments, and what it makes of two memberships.
type operation struct {
	name   string
	run    func(a, b api.Knowledge) (api.Knowledge, error)
	member func(a, b bool) bool
}

// operations are all functions of two arguments.
func operations() []operation {
	return []operation{
		{"Union", know.Union, func(a, b bool) bool { return a || b }},
		{"Meet", know.Meet, func(a, b bool) bool { return a && b }},
		{"Minus", know.Minus, func(a, b bool) bool { return a && !b }},
	}
}

// set returns what an operation makes of two sets of cells.
func (o operation) set(a, b uint) uint {
	set := uint(0)
	for i := range bits.UintSize {
		if o.member(a>>i&1 == 1, b>>i&1 == 1) {
			set |= 1 << i
		}
	}
	return set
}

// table returns what an operation makes of two tables.
func (o operation) table(a, b table) table {
	t := make(table, len(a))
	for cell := range a {
		for i := range a[cell] {
			t[cell] = append(t[cell], o.set(a[cell][i], b[cell][i]))
		}
	}
	return t
}

// checkResult checks the result of a call that must succeed.
func checkResult(t *testing.T, name string, got api.Knowledge, err error, want api.Knowledge) {
	t.Helper()
	if err != nil || !same(got, want) {
		t.Errorf("%s = %v, %v, want %v", name, got, err, want)
	}
	if !canonical(got) || !canon.Canonical(got) {
		t.Errorf("%s = %v, which is not canonical", name, got)
	}
}

// check checks what an operation makes of two arguments.
func (o operation) check(t *testing.T, a, b, want api.Knowledge) {
	t.Helper()
	got, err := o.run(a, b)
	if err != nil || !same(got, want) || !canonical(got) {
		t.Errorf("%s(%v, %v) = %v, %v, want %v", o.name, a, b, got, err, want)
	}
}

// around returns some numbers, and those next to them.
func around(numbers []uint64) []uint64 {
	l := []uint64{0, greatest}
	for _, x := range numbers {
		// Both may wrap around, which is as good as any other number.
		l = append(l, x-1, x, x+1)
	}
	slices.Sort(l)
	return slices.Compact(l)
}

// probes returns items, replicas and counters that have all numbers at which something changes in some knowledge.
func probes(all ...api.Knowledge) (items, replicas, counters []uint64) {
	for _, f := range slices.Concat(all...) {
		for _, s := range f.Items {
			items = append(items, s.Lo, s.Hi)
		}
		for _, e := range f.Vector {
			replicas, counters = append(replicas, e.Replica), append(counters, e.Max)
			for _, hole := range e.Holes {
				counters = append(counters, hole.Lo, hole.Hi)
			}
		}
	}
	return around(items), around(replicas), around(counters)
}

// checkKnown checks that knowledge is canonical, and that by it those versions are known for items that are wanted: at all numbers at which something changes in it or in the others.
func checkKnown(t *testing.T, name string, got api.Knowledge, want func(item, replica, counter uint64) bool, others ...api.Knowledge) {
	t.Helper()
	if !canonical(got) {
		t.Errorf("%s = %v, which is not canonical", name, got)
	}
	items, replicas, counters := probes(append(others, got)...)
	for _, item := range items {
		for _, replica := range replicas {
			for _, counter := range counters {
				if knows(got, item, replica, counter) != want(item, replica, counter) {
					t.Errorf("%s = %v: for the item %d, the version %d, %d is known: %t", name, got, item, replica, counter, !want(item, replica, counter))
					return
				}
			}
		}
	}
}

// checkOperations checks all operations on two arguments version by version.
func checkOperations(t *testing.T, a, b api.Knowledge) {
	t.Helper()
	for _, o := range operations() {
		got, err := o.run(a, b)
		if err != nil {
			t.Errorf("%s(%v, %v): %v", o.name, a, b, err)
		}
		checkKnown(t, o.name, got, func(item, replica, counter uint64) bool {
			return o.member(knows(a, item, replica, counter), knows(b, item, replica, counter))
		}, a, b)
	}
}

// randomRanges returns a list of intervals with numbers between them, the first one not before a number.
func randomRanges(random *rand.Rand, from, count uint64) api.Ranges {
	var l api.Ranges
	for range count {
		lo := from + uint64(random.Intn(4))
		hi := lo + uint64(random.Intn(4))
		l = append(l, iv(lo, hi))
		from = hi + 2
	}
	return l
}

// randomVector returns a correct vector of replicas up to 4 and counters up to 31.
func randomVector(random *rand.Rand) api.Vector {
	var v api.Vector
	for replica := range uint64(5) {
		if random.Intn(2) == 0 {
			continue
		}
		holes := randomRanges(random, uint64(random.Intn(3)), uint64(random.Intn(4)))
		last := uint64(random.Intn(12))
		if len(holes) > 0 {
			last = max(holes[len(holes)-1].Hi, last)
		}
		v = append(v, of(replica, last, holes...))
	}
	return v
}

// randomKnowledge returns correct knowledge of items up to 63, replicas up to 4 and counters up to 31.
func randomKnowledge(random *rand.Rand, count int) api.Knowledge {
	var k api.Knowledge
	for range count {
		k = append(k, on(randomRanges(random, uint64(random.Intn(20)), uint64(random.Intn(6))), randomVector(random)...))
	}
	return k
}

// numbered is the space of random knowledge.
func numbered() space { return space{bottom(63), []uint64{0, 1, 2, 3, 4}, bottom(31)} }

// far returns knowledge like some of low numbers, whose numbers are the greatest ones.
func far(k api.Knowledge) api.Knowledge {
	move := func(l api.Ranges) {
		for i := range l {
			l[i] = iv(greatest-l[i].Hi, greatest-l[i].Lo)
		}
		slices.Reverse(l)
	}
	k = clone(k)
	for _, f := range k {
		move(f.Items)
		for i, e := range f.Vector {
			move(e.Holes)
			f.Vector[i] = of(greatest-e.Replica, greatest-uint64(len(e.Holes)%2), e.Holes...)
			if len(e.Holes) > 0 {
				f.Vector[i].Max = max(f.Vector[i].Max, e.Holes[len(e.Holes)-1].Hi)
			}
		}
		slices.Reverse(f.Vector)
	}
	return k
}

// cases have two arguments, and what is known by them together, by both, by the first one alone, and by the second one alone.
type cases []struct {
	name                     string
	a, b                     api.Knowledge
	union, meet, left, right api.Knowledge
}

// ascending returns canonical knowledge with several fragments, whose intervals alternate and touch.
func ascending() api.Knowledge {
	return api.Knowledge{
		on(list(iv(3, 4), iv(9, 9), iv(20, 29)), of(1, 5)),
		on(list(iv(0, 0), iv(5, 6)), of(1, 5, iv(2, 3))),
		on(list(iv(7, 8), iv(greatest, greatest)), of(2, 0)),
		on(list(iv(12, 12)), of(1, 5), of(2, 0)),
	}
}

// edges returns edge cases, which are checked in both orders.
func edges() cases {
	one, two, holes := of(1, 9), of(2, 6), of(1, 9, iv(3, 5))
	nothing := of(3, 4, iv(0, 4))
	a, b := api.Knowledge{on(list(iv(1, 5)), one)}, api.Knowledge{on(list(iv(4, 9)), two)}
	k := func(fragments ...api.Fragment) api.Knowledge { return fragments }
	return cases{
		{"nothing", nil, nil, nil, nil, nil, nil},
		{"nothing, not nil", k(), api.Knowledge{}, nil, nil, nil, nil},
		{"nothing of the second", a, nil, a, nil, a, nil},
		{"nothing known", k(on(all(), nothing)), k(on(nil, one), on(list(iv(1, 2))), api.Fragment{}), nil, nil, nil, nil},
		{"nothing known of the second", ascending(), k(on(all(), nothing), on(nil, one), on(all())), ascending(), nil, ascending(), nil},
		{"the same", ascending(), ascending(), ascending(), ascending(), nil, nil},
		{"the same for all items", k(on(all(), holes, two)), k(on(all(), holes, two)), k(on(all(), holes, two)), k(on(all(), holes, two)), nil, nil},
		{"items meet, other replicas", a, b, k(on(list(iv(1, 3)), one), on(list(iv(6, 9)), two), on(list(iv(4, 5)), one, two)), nil, a, b},
		{"items meet, the same vector", a, k(on(list(iv(4, 9)), one)), k(on(list(iv(1, 9)), one)), k(on(list(iv(4, 5)), one)), k(on(list(iv(1, 3)), one)), k(on(list(iv(6, 9)), one))},
		{"items touch, the same vector", a, k(on(list(iv(6, 9)), one)), k(on(list(iv(1, 9)), one)), nil, a, k(on(list(iv(6, 9)), one))},
		{"items apart, the same vector", a, k(on(list(iv(7, 9)), one)), k(on(list(iv(1, 5), iv(7, 9)), one)), nil, a, k(on(list(iv(7, 9)), one))},
		{"items touch, other vectors", a, k(on(list(iv(6, 9)), two)), k(on(list(iv(1, 5)), one), on(list(iv(6, 9)), two)), nil, a, k(on(list(iv(6, 9)), two))},
		{"one item in common", a, k(on(list(iv(5, 9)), of(1, 4))), k(on(list(iv(6, 9)), of(1, 4)), on(list(iv(1, 5)), one)), k(on(list(iv(5, 5)), of(1, 4))), k(on(list(iv(1, 4)), one), on(list(iv(5, 5)), of(1, 9, iv(0, 4)))), k(on(list(iv(6, 9)), of(1, 4)))},
		{"counters touch", k(on(list(iv(1, 4)), of(1, 4))), k(on(list(iv(1, 4)), of(1, 9, iv(0, 4)))), k(on(list(iv(1, 4)), one)), nil, k(on(list(iv(1, 4)), of(1, 4))), k(on(list(iv(1, 4)), of(1, 9, iv(0, 4))))},
		{"one counter in common", k(on(list(iv(1, 4)), of(1, 5))), k(on(list(iv(1, 4)), of(1, 9, iv(0, 4)))), k(on(list(iv(1, 4)), one)), k(on(list(iv(1, 4)), of(1, 5, iv(0, 4)))), k(on(list(iv(1, 4)), of(1, 4))), k(on(list(iv(1, 4)), of(1, 9, iv(0, 5))))},
		{"one in the hole of the other one", k(on(all(), holes)), k(on(all(), of(1, 5, iv(0, 2)))), k(on(all(), one)), nil, k(on(all(), holes)), k(on(all(), of(1, 5, iv(0, 2))))},
		{
			"the Max of one side is in a hole", k(on(list(iv(1, 4)), of(1, 12, iv(10, 12)), nothing)), k(on(list(iv(3, 6)), of(1, 9, iv(9, 9)))),
			k(on(list(iv(5, 6)), of(1, 8)), on(list(iv(1, 4)), one)), k(on(list(iv(3, 4)), of(1, 8))), k(on(list(iv(1, 2)), one), on(list(iv(3, 4)), of(1, 9, iv(0, 8)))), k(on(list(iv(5, 6)), of(1, 8))),
		},
		{
			"vectors that differ only in their form", k(on(list(iv(1, 4)), one)), k(on(list(iv(3, 6)), of(0, 5, iv(0, 5)), of(1, 12, iv(10, 12)))),
			k(on(list(iv(1, 6)), one)), k(on(list(iv(3, 4)), one)), k(on(list(iv(1, 2)), one)), k(on(list(iv(5, 6)), one)),
		},
		{
			"the result has fewer fragments", k(on(list(iv(1, 2)), of(1, 3)), on(list(iv(4, 5)), of(1, 4))), k(on(list(iv(1, 5)), one)),
			k(on(list(iv(1, 5)), one)), k(on(list(iv(1, 2)), of(1, 3)), on(list(iv(4, 5)), of(1, 4))), nil, k(on(list(iv(3, 3)), one), on(list(iv(1, 2)), of(1, 9, iv(0, 3))), on(list(iv(4, 5)), of(1, 9, iv(0, 4)))),
		},
		{
			"pieces of several pairs have one vector", k(on(list(iv(1, 1), iv(5, 5)), of(1, 3)), on(list(iv(3, 3)), of(1, 3), two)), k(on(list(iv(1, 1), iv(3, 3)), of(1, 2)), on(list(iv(5, 5), iv(7, 7)), of(1, 2), of(5, 5))),
			k(on(list(iv(1, 1)), of(1, 3)), on(list(iv(7, 7)), of(1, 2), of(5, 5)), on(list(iv(3, 3)), of(1, 3), two), on(list(iv(5, 5)), of(1, 3), of(5, 5))),
			k(on(list(iv(1, 1), iv(3, 3), iv(5, 5)), of(1, 2))),
			k(on(list(iv(1, 1), iv(5, 5)), of(1, 3, iv(0, 2))), on(list(iv(3, 3)), of(1, 3, iv(0, 2)), two)),
			k(on(list(iv(5, 5)), of(5, 5)), on(list(iv(7, 7)), of(1, 2), of(5, 5))),
		},
		{
			"items in several fragments of one side", k(on(list(iv(1, 5)), of(1, 3)), on(list(iv(3, 7)), of(1, 9, iv(0, 6)))), k(on(list(iv(2, 6)), of(1, 7, iv(4, 4)))),
			k(on(list(iv(1, 1)), of(1, 3)), on(list(iv(2, 2)), of(1, 7, iv(4, 4))), on(list(iv(7, 7)), of(1, 9, iv(0, 6))), on(list(iv(3, 6)), of(1, 9, iv(4, 4)))),
			k(on(list(iv(2, 2)), of(1, 3)), on(list(iv(6, 6)), of(1, 7, iv(0, 6))), on(list(iv(3, 5)), of(1, 7, iv(4, 6)))),
			k(on(list(iv(1, 1)), of(1, 3)), on(list(iv(7, 7)), of(1, 9, iv(0, 6))), on(list(iv(3, 6)), of(1, 9, iv(0, 7)))),
			k(on(list(iv(3, 5)), of(1, 6, iv(0, 4))), on(list(iv(6, 6)), of(1, 6, iv(4, 4))), on(list(iv(2, 2)), of(1, 7, iv(0, 4)))),
		},
		{
			"the least and the greatest item", k(on(list(iv(0, 0), iv(greatest, greatest)), one)), k(on(all(), two)),
			k(on(list(iv(1, greatest-1)), two), on(list(iv(0, 0), iv(greatest, greatest)), one, two)), nil, k(on(list(iv(0, 0), iv(greatest, greatest)), one)), k(on(all(), two)),
		},
		{
			"all but the least and the greatest item", k(on(list(iv(1, greatest-1)), one)), k(on(all(), of(1, 3))),
			k(on(list(iv(0, 0), iv(greatest, greatest)), of(1, 3)), on(list(iv(1, greatest-1)), one)), k(on(list(iv(1, greatest-1)), of(1, 3))), k(on(list(iv(1, greatest-1)), of(1, 9, iv(0, 3)))), k(on(list(iv(0, 0), iv(greatest, greatest)), of(1, 3))),
		},
		{
			"the greatest counter", k(on(all(), of(greatest, greatest))), k(on(all(), of(greatest, greatest-1))),
			k(on(all(), of(greatest, greatest))), k(on(all(), of(greatest, greatest-1))), k(on(all(), of(greatest, greatest, iv(0, greatest-1)))), nil,
		},
		{
			"the counter 0", k(on(all(), of(0, greatest))), k(on(list(iv(7, 8)), of(0, 0))),
			k(on(all(), of(0, greatest))), k(on(list(iv(7, 8)), of(0, 0))), k(on(list(iv(0, 6), iv(9, greatest)), of(0, greatest)), on(list(iv(7, 8)), of(0, greatest, iv(0, 0)))), nil,
		},
		{"not in order", k(ascending()[2], ascending()[0]), k(ascending()[3], ascending()[1]), ascending(), nil, k(ascending()[0], ascending()[2]), k(ascending()[1], ascending()[3])},
		{"twice", append(ascending(), ascending()...), ascending()[1:3], ascending(), ascending()[1:3], k(ascending()[0], ascending()[3]), nil},
	}
}

func TestP14_1Edges(t *testing.T) {
	for _, c := range edges() {
		t.Run(c.name, func(t *testing.T) {
			for _, o := range operations() {
				want, turned := c.left, c.right
				switch o.name {
				case "Union":
					want, turned = c.union, c.union
				case "Meet":
					want, turned = c.meet, c.meet
				}
				o.check(t, c.a, c.b, want)
				o.check(t, c.b, c.a, turned)
			}
			checkOperations(t, c.a, c.b)
			checkOperations(t, far(c.a), far(c.b))
		})
	}
}

// checkPairs checks all operations on all pairs of two pools of a space.
func checkPairs(t *testing.T, s space, a, b []api.Knowledge) {
	t.Helper()
	var tables []table
	for _, l := range b {
		tables = append(tables, s.table(l))
	}
	for _, k := range a {
		known := s.table(k)
		for i, l := range b {
			for _, o := range operations() {
				o.check(t, k, l, s.form(o.table(known, tables[i])))
			}
		}
	}
}

// All pairs of knowledge of some spaces: with few fragments, with two replicas, with the greatest numbers, and with all numbers.
func TestP14_1AllKnowledge(t *testing.T) {
	small := space{bottom(1), []uint64{0}, bottom(0)}
	checkPairs(t, small, small.knowledge(2), small.knowledge(2))
	one := space{bottom(2), []uint64{3}, bottom(1)}
	checkPairs(t, one, one.knowledge(1), one.knowledge(1))
	checkPairs(t, one, one.knowledge(2), one.forms()[17:21])
	checkPairs(t, one, one.forms()[40:44], one.knowledge(2))
	two := space{bottom(0), []uint64{0, 2}, bottom(1)}
	checkPairs(t, two, two.knowledge(1), two.knowledge(1))
	high := space{top(1), []uint64{greatest}, top(2)}
	checkPairs(t, high, high.knowledge(1), high.knowledge(1))
}

// All pairs of sets of what is known, by their canonical forms.
func TestP14_1AllForms(t *testing.T) {
	for _, s := range []space{
		{bottom(2), []uint64{3}, bottom(1)},
		{top(2), []uint64{greatest}, top(1)},
		{ends(), []uint64{7}, bottom(0)},
		{bottom(1), []uint64{0, greatest}, bottom(1)},
	} {
		checkPairs(t, s, s.forms(), s.forms())
	}
}

// Random knowledge with many fragments, by the canonical form of what is known.
func TestP14_1ManyFragments(t *testing.T) {
	random := rand.New(rand.NewSource(141))
	s := numbered()
	for round := range 200 {
		a, b := randomKnowledge(random, round%9), randomKnowledge(random, round/9%9)
		x, y := s.table(a), s.table(b)
		for _, o := range operations() {
			o.check(t, a, b, s.form(o.table(x, y)))
		}
	}
}

// Random knowledge of the least and of the greatest numbers, version by version.
func TestP14_1VersionByVersion(t *testing.T) {
	random := rand.New(rand.NewSource(142))
	for round := range 60 {
		a, b := randomKnowledge(random, 1+round%3), randomKnowledge(random, 1+round/3%3)
		checkOperations(t, a, b)
		checkOperations(t, far(a), far(b))
		checkOperations(t, append(clone(a), far(b)...), append(clone(b), far(a)...))
	}
}

// chain returns canonical knowledge with many fragments.
func chain(count, replica uint64) api.Knowledge {
	var k api.Knowledge
	for i := range count {
		k = append(k, on(list(iv(4*i, 4*i+1), iv(4*(count+i), 4*(count+i)+1)), of(replica, i)))
	}
	return k
}

// Many fragments take no quadratic time, and a long vector with many intervals is not kept for each of them.
func TestP14_1LongKnowledge(t *testing.T) {
	const count = 20000
	a, b := chain(count, 1), chain(count, 2)
	var both, moved api.Knowledge
	for i, f := range a {
		both = append(both, on(f.Items, f.Vector[0], b[i].Vector[0]))
		moved = append(moved, on(list(iv(f.Items[0].Lo+2, f.Items[0].Hi+2), iv(f.Items[1].Lo+2, f.Items[1].Hi+2)), b[i].Vector...))
	}
	for _, o := range operations() {
		for _, c := range []struct{ a, b, union, meet, minus api.Knowledge }{
			{a, b, both, nil, a},
			{a, moved, append(slices.Clip(a), moved...), nil, a},
			{a, a, a, a, nil},
			{both, b, both, b, a},
		} {
			got, err := o.run(c.a, c.b)
			want := map[string]api.Knowledge{"Union": c.union, "Meet": c.meet, "Minus": c.minus}[o.name]
			if err != nil || !same(got, want) {
				t.Errorf("%s returns %d fragments and %v, want %d", o.name, len(got), err, len(want))
			}
		}
	}
}

func TestP14_1LongVectors(t *testing.T) {
	const great = 5000
	var items, gaps api.Ranges
	var v api.Vector
	for x := range uint64(great) {
		items, gaps = append(items, iv(4*x, 4*x+1)), append(gaps, iv(4*x+2, 4*x+3))
		v = append(v, of(x, x))
	}
	a, b := api.Knowledge{on(items, v...)}, api.Knowledge{on(gaps, v[1:]...)}
	whole := api.Knowledge{on(list(iv(0, 4*great-1)), v...)}
	for _, c := range []struct {
		name    string
		run     func(a, b api.Knowledge) (api.Knowledge, error)
		a, b    api.Knowledge
		of, len int
	}{
		{"Union", know.Union, a, b, 2, great}, {"Union", know.Union, a, whole, 1, 1}, {"Meet", know.Meet, a, b, 0, 0}, {"Meet", know.Meet, a, whole, 1, great},
		{"Minus", know.Minus, a, b, 1, great}, {"Minus", know.Minus, whole, b, 2, great}, {"Minus", know.Minus, b, whole, 0, 0},
	} {
		got, err := c.run(c.a, c.b)
		if err != nil || len(got) != c.of || len(got) > 0 && len(got[0].Items) != c.len {
			t.Errorf("%s returns %d fragments and %v, want %d", c.name, len(got), err, c.of)
		}
	}
}

func TestP14_2Edges(t *testing.T) {
	one, two := of(1, 9), of(2, 6, iv(3, 4))
	k := api.Knowledge{on(list(iv(1, 5)), one), on(list(iv(4, 9)), two), on(list(iv(20, greatest)), of(1, 12, iv(10, 12)))}
	for _, c := range []struct {
		name  string
		k     api.Knowledge
		items api.Ranges
		want  api.Knowledge
	}{
		{"nothing to nothing", nil, nil, nil},
		{"nothing to items", nil, all(), nil},
		{"no fragment, not nil", api.Knowledge{}, list(iv(3, 4)), nil},
		{"to no items", k, nil, nil},
		{"to no items, not nil", k, api.Ranges{}, nil},
		{"to all items", k, all(), api.Knowledge{on(list(iv(1, 3), iv(20, greatest)), one), on(list(iv(6, 9)), two), on(list(iv(4, 5)), one, two)}},
		{"to its items", k, list(iv(1, 9), iv(20, greatest)), api.Knowledge{on(list(iv(1, 3), iv(20, greatest)), one), on(list(iv(6, 9)), two), on(list(iv(4, 5)), one, two)}},
		{"to other items", k, list(iv(0, 0), iv(10, 19)), nil},
		{"to one item of one fragment", k, list(iv(1, 1)), api.Knowledge{on(list(iv(1, 1)), one)}},
		{"to one item of two fragments", k, list(iv(4, 4)), api.Knowledge{on(list(iv(4, 4)), one, two)}},
		{"to the last item of a fragment", k, list(iv(9, 9)), api.Knowledge{on(list(iv(9, 9)), two)}},
		{"to the item in front of all", k, list(iv(0, 0)), nil},
		{"to the item behind a fragment", k, list(iv(10, 10)), nil},
		{"to the greatest item", k, list(iv(greatest, greatest)), api.Knowledge{on(list(iv(greatest, greatest)), one)}},
		{"to the first items", k, list(iv(0, 2)), api.Knowledge{on(list(iv(1, 2)), one)}},
		{"across a border", k, list(iv(3, 4)), api.Knowledge{on(list(iv(3, 3)), one), on(list(iv(4, 4)), one, two)}},
		{"to several intervals", k, list(iv(0, 1), iv(3, 3), iv(5, 6), iv(9, 20), iv(22, 22)), api.Knowledge{on(list(iv(1, 1), iv(3, 3), iv(20, 20), iv(22, 22)), one), on(list(iv(6, 6), iv(9, 9)), two), on(list(iv(5, 5)), one, two)}},
		{"to intervals within one", api.Knowledge{on(all(), one)}, list(iv(0, 0), iv(5, 7), iv(greatest, greatest)), api.Knowledge{on(list(iv(0, 0), iv(5, 7), iv(greatest, greatest)), one)}},
		{"of the item 0", api.Knowledge{on(list(iv(0, 0)), of(0, 0))}, all(), api.Knowledge{on(list(iv(0, 0)), of(0, 0))}},
		// The mark of the items is no version that is known.
		{"nothing known", api.Knowledge{on(all(), of(0, 3, iv(0, 3))), on(nil, one), {}}, all(), nil},
		{"not the counter 0 of the replica 0", api.Knowledge{on(all(), of(0, 3, iv(0, 2)))}, list(iv(5, 5)), api.Knowledge{on(list(iv(5, 5)), of(0, 3, iv(0, 2)))}},
		{"canonical", ascending(), all(), ascending()},
		{"canonical, cut", ascending(), list(iv(4, 8)), api.Knowledge{on(list(iv(4, 4)), of(1, 5)), on(list(iv(5, 6)), of(1, 5, iv(2, 3))), on(list(iv(7, 8)), of(2, 0))}},
		{"the fragments are not in order", api.Knowledge{on(list(iv(1, 4)), two), on(list(iv(6, 7)), one)}, list(iv(2, 6)), api.Knowledge{on(list(iv(6, 6)), one), on(list(iv(2, 4)), two)}},
	} {
		t.Run(c.name, func(t *testing.T) {
			got, err := know.Project(c.k, c.items)
			checkResult(t, "Project", got, err, c.want)
		})
	}
}

// project returns the part of a table of some cells.
func project(t table, set uint) table {
	p := make(table, len(t))
	for cell, row := range t {
		p[cell] = make([]uint, len(row))
		if set>>cell&1 == 1 {
			copy(p[cell], row)
		}
	}
	return p
}

// All knowledge of some spaces, to all sets of their items.
func TestP14_2AllKnowledge(t *testing.T) {
	for _, c := range []struct {
		space
		most int
	}{
		{space{bottom(2), []uint64{3}, bottom(1)}, 2},
		{space{bottom(1), []uint64{0, 2}, bottom(1)}, 1},
		{space{top(2), []uint64{greatest}, top(2)}, 1},
		{space{ends(), []uint64{0}, bottom(0)}, 2},
	} {
		for _, k := range c.knowledge(c.most) {
			known := c.table(k)
			for set, items := range c.items.lists() {
				got, err := know.Project(k, items)
				if want := c.form(project(known, uint(set))); err != nil || !same(got, want) {
					t.Errorf("Project(%v, %v) = %v, %v, want %v", k, items, got, err, want)
				}
			}
		}
	}
}

func TestP14_2VersionByVersion(t *testing.T) {
	random := rand.New(rand.NewSource(143))
	for round := range 100 {
		k, items := randomKnowledge(random, round%5), randomRanges(random, uint64(random.Intn(30)), uint64(random.Intn(7)))
		got, err := know.Project(k, items)
		if err != nil {
			t.Errorf("Project(%v, %v): %v", k, items, err)
		}
		checkKnown(t, "Project", got, func(item, replica, counter uint64) bool {
			return contains(items, item) && knows(k, item, replica, counter)
		}, k, api.Knowledge{on(items)})
	}
}

func TestP14_2LongKnowledge(t *testing.T) {
	const count = 20000
	k := chain(count, 1)
	var items api.Ranges
	var want api.Knowledge
	for i := range uint64(count) {
		items = append(items, iv(4*i+1, 4*i+2))
		want = append(want, on(list(iv(4*i+1, 4*i+1)), of(1, i)))
	}
	got, err := know.Project(k, items)
	if err != nil || !same(got, want) {
		t.Errorf("Project returns %d fragments and %v, want %d", len(got), err, len(want))
	}
	var v api.Vector
	for x := range uint64(5000) {
		v = append(v, of(x, x))
	}
	got, err = know.Project(api.Knowledge{on(all(), v...)}, items)
	if err != nil || !same(got, api.Knowledge{on(items, v...)}) {
		t.Errorf("Project returns %d fragments and %v, want 1", len(got), err)
	}
}

func TestP14_3Edges(t *testing.T) {
	one, two := of(1, 4), of(7, 2)
	k := api.Knowledge{on(list(iv(1, 5)), one), on(list(iv(6, 9)), two)}
	for _, c := range []struct {
		name                   string
		k                      api.Knowledge
		item, replica, counter uint64
		want                   api.Knowledge
	}{
		{"into nothing", nil, 3, 7, 0, api.Knowledge{on(list(iv(3, 3)), of(7, 0))}},
		{"into no fragment, not nil", api.Knowledge{}, 3, 7, 5, api.Knowledge{on(list(iv(3, 3)), of(7, 5, iv(0, 4)))}},
		{"the least numbers", nil, 0, 0, 0, api.Knowledge{on(list(iv(0, 0)), of(0, 0))}},
		{"the greatest numbers", nil, greatest, greatest, greatest, api.Knowledge{on(list(iv(greatest, greatest)), of(greatest, greatest, iv(0, greatest-1)))}},
		{"the counter 1", nil, 0, 0, 1, api.Knowledge{on(list(iv(0, 0)), of(0, 1, iv(0, 0)))}},
		{"nothing known before", api.Knowledge{on(all(), of(7, 4, iv(0, 4))), on(nil, one), {}}, 3, 7, 4, api.Knowledge{on(list(iv(3, 3)), of(7, 4, iv(0, 3)))}},
		{"known", k, 3, 1, 4, k},
		{"known, the counter 0", k, 1, 1, 0, k},
		{"known for the last item", k, 9, 7, 2, k},
		{"the next counter", k, 3, 1, 5, api.Knowledge{on(list(iv(1, 2), iv(4, 5)), one), on(list(iv(3, 3)), of(1, 5)), on(list(iv(6, 9)), two)}},
		{"the next counter for the first item", k, 1, 1, 5, api.Knowledge{on(list(iv(2, 5)), one), on(list(iv(1, 1)), of(1, 5)), on(list(iv(6, 9)), two)}},
		{"the next counter for the last item", k, 9, 7, 3, api.Knowledge{on(list(iv(1, 5)), one), on(list(iv(6, 8)), two), on(list(iv(9, 9)), of(7, 3))}},
		{"a later counter", k, 3, 1, 7, api.Knowledge{on(list(iv(1, 2), iv(4, 5)), one), on(list(iv(3, 3)), of(1, 7, iv(5, 6))), on(list(iv(6, 9)), two)}},
		{"the greatest counter", k, 3, 1, greatest, api.Knowledge{on(list(iv(1, 2), iv(4, 5)), one), on(list(iv(3, 3)), of(1, greatest, iv(5, greatest-1))), on(list(iv(6, 9)), two)}},
		{"a counter in a hole", api.Knowledge{on(list(iv(3, 3)), of(1, 5, iv(2, 3)))}, 3, 1, 2, api.Knowledge{on(list(iv(3, 3)), of(1, 5, iv(3, 3)))}},
		{"the only counter in a hole", api.Knowledge{on(list(iv(3, 3)), of(1, 5, iv(3, 3)))}, 3, 1, 3, api.Knowledge{on(list(iv(3, 3)), of(1, 5))}},
		{"the counter that is Max in a hole", api.Knowledge{on(list(iv(3, 3)), of(1, 5, iv(4, 5)))}, 3, 1, 5, api.Knowledge{on(list(iv(3, 3)), of(1, 5, iv(4, 4)))}},
		{"another replica", k, 3, 7, 0, api.Knowledge{on(list(iv(1, 2), iv(4, 5)), one), on(list(iv(6, 9)), two), on(list(iv(3, 3)), one, of(7, 0))}},
		{"a replica between", api.Knowledge{on(list(iv(3, 3)), one, two)}, 3, 5, 0, api.Knowledge{on(list(iv(3, 3)), one, of(5, 0), two)}},
		{"a replica in front", api.Knowledge{on(list(iv(3, 3)), one, two)}, 3, 0, 0, api.Knowledge{on(list(iv(3, 3)), of(0, 0), one, two)}},
		{"another item", k, 20, 1, 4, api.Knowledge{on(list(iv(1, 5)), one), on(list(iv(20, 20)), of(1, 4, iv(0, 3))), on(list(iv(6, 9)), two)}},
		{"an item in front", k, 0, 1, 0, api.Knowledge{on(list(iv(0, 0)), of(1, 0)), on(list(iv(1, 5)), one), on(list(iv(6, 9)), two)}},
		{"an item that touches the same vector", api.Knowledge{on(list(iv(1, 5)), of(7, 0))}, 6, 7, 0, api.Knowledge{on(list(iv(1, 6)), of(7, 0))}},
		{"an item that touches the same vector in front", api.Knowledge{on(list(iv(1, 5)), of(7, 0))}, 0, 7, 0, api.Knowledge{on(list(iv(0, 5)), of(7, 0))}},
		{"an item between the same vector", api.Knowledge{on(list(iv(0, 4), iv(6, greatest)), of(7, 0))}, 5, 7, 0, api.Knowledge{on(all(), of(7, 0))}},
		{"an item apart from the same vector", api.Knowledge{on(list(iv(1, 5)), of(7, 0))}, 9, 7, 0, api.Knowledge{on(list(iv(1, 5), iv(9, 9)), of(7, 0))}},
		{"an item of all", api.Knowledge{on(all(), one)}, 5, 1, 5, api.Knowledge{on(list(iv(0, 4), iv(6, greatest)), one), on(list(iv(5, 5)), of(1, 5))}},
		{"the item 0 of all", api.Knowledge{on(all(), one)}, 0, 1, 5, api.Knowledge{on(list(iv(1, greatest)), one), on(list(iv(0, 0)), of(1, 5))}},
		{"the greatest item of all", api.Knowledge{on(all(), one)}, greatest, 1, 5, api.Knowledge{on(list(iv(0, greatest-1)), one), on(list(iv(greatest, greatest)), of(1, 5))}},
		{"a fragment is joined with another one", api.Knowledge{on(list(iv(3, 3)), of(1, 4)), on(list(iv(4, 6)), of(1, 5))}, 3, 1, 5, api.Knowledge{on(list(iv(3, 6)), of(1, 5))}},
		{"an item of two fragments", api.Knowledge{on(list(iv(1, 5)), one), on(list(iv(3, 9)), two)}, 4, 7, 3, api.Knowledge{on(list(iv(1, 2)), one), on(list(iv(6, 9)), two), on(list(iv(3, 3), iv(5, 5)), one, two), on(list(iv(4, 4)), one, of(7, 3))}},
		{"an item of two fragments, known by one", api.Knowledge{on(list(iv(4, 4)), one), on(list(iv(4, 4)), two)}, 4, 1, 2, api.Knowledge{on(list(iv(4, 4)), one, two)}},
		// The mark of the item is no version that is known.
		{"not the counter 0 of the replica 0", nil, 3, 0, 2, api.Knowledge{on(list(iv(3, 3)), of(0, 2, iv(0, 1)))}},
	} {
		t.Run(c.name, func(t *testing.T) {
			got, err := know.Insert(c.k, c.item, c.replica, c.counter)
			checkResult(t, "Insert", got, err, c.want)
		})
	}
}

// checkInsert checks what is known after an insertion, version by version.
func checkInsert(t *testing.T, k api.Knowledge, item, replica, counter uint64) {
	t.Helper()
	got, err := know.Insert(k, item, replica, counter)
	if err != nil {
		t.Errorf("Insert(%v, %d, %d, %d): %v", k, item, replica, counter, err)
	}
	checkKnown(t, "Insert", got, func(i, r, c uint64) bool {
		return i == item && r == replica && c == counter || knows(k, i, r, c)
	}, k, api.Knowledge{on(list(iv(item, item)), of(replica, counter))})
}

// All knowledge of some spaces, with versions and items of each cell and at its ends.
func TestP14_3AllKnowledge(t *testing.T) {
	for _, c := range []struct {
		space
		most  int
		other []uint64
	}{
		{space{bottom(1), []uint64{3}, bottom(1)}, 1, []uint64{0, 3}},
		{space{bottom(0), []uint64{0}, bottom(0)}, 2, []uint64{0, 9}},
		{space{top(1), []uint64{greatest}, top(1)}, 1, []uint64{7, greatest}},
	} {
		for _, k := range c.knowledge(c.most) {
			for _, item := range []uint64{0, 1, 2, 77, greatest - 1, greatest} {
				for _, replica := range c.other {
					for _, counter := range []uint64{0, 1, 2, 99, greatest - 1, greatest} {
						checkInsert(t, k, item, replica, counter)
					}
				}
			}
		}
	}
}

func TestP14_3VersionByVersion(t *testing.T) {
	random := rand.New(rand.NewSource(144))
	for round := range 100 {
		k := randomKnowledge(random, round%5)
		item, replica, counter := uint64(random.Intn(64)), uint64(random.Intn(6)), uint64(random.Intn(34))
		checkInsert(t, k, item, replica, counter)
		checkInsert(t, far(k), greatest-item, greatest-replica, greatest-counter)
	}
}

// Knowledge that grows version by version, in any order, up to what is known by one fragment.
func TestP14_3Growth(t *testing.T) {
	type triple struct{ item, replica, counter uint64 }
	var triples []triple
	for i := range uint64(4) {
		for r := range uint64(3) {
			for c := range uint64(5) {
				triples = append(triples, triple{greatest - i, r, c})
			}
		}
	}
	random := rand.New(rand.NewSource(145))
	for range 5 {
		random.Shuffle(len(triples), func(i, j int) { triples[i], triples[j] = triples[j], triples[i] })
		var k api.Knowledge
		for i, x := range triples {
			var err error
			if k, err = know.Insert(k, x.item, x.replica, x.counter); err != nil || !canonical(k) {
				t.Fatalf("after %v: %v, %v", triples[:i+1], k, err)
			}
			for j, y := range triples {
				if got, err := know.Has(k, y.item, y.replica, y.counter); got != (j <= i) || err != nil {
					t.Errorf("Has(%v, %v) = %t, %v, after %d insertions", k, y, got, err, i+1)
				}
			}
		}
		checkResult(t, "Insert", k, nil, api.Knowledge{on(list(iv(greatest-3, greatest)), of(0, 4), of(1, 4), of(2, 4))})
	}
}

func TestP14_3LongKnowledge(t *testing.T) {
	const count = 20000
	k := chain(count, 1)
	got, err := know.Insert(k, 4*count+4, 1, 2)
	want := clone(k)
	want[1].Items = want[1].Items[:1]
	want[2].Items = slices.Insert(want[2].Items, 1, iv(4*count+4, 4*count+4))
	want[1].Items = append(want[1].Items, iv(4*count+5, 4*count+5))
	if err != nil || !same(got, want) {
		t.Errorf("Insert returns %d fragments and %v, want %d", len(got), err, len(want))
	}
}

// checkHas checks whether a version is known for an item.
func checkHas(t *testing.T, k api.Knowledge, item, replica, counter uint64, want bool) {
	t.Helper()
	if got, err := know.Has(k, item, replica, counter); got != want || err != nil {
		t.Errorf("Has(%v, %d, %d, %d) = %t, %v", k, item, replica, counter, got, err)
	}
}

func TestP14_3Has(t *testing.T) {
	k := api.Knowledge{on(list(iv(1, 5)), of(1, 4, iv(2, 3)), of(7, 0)), on(list(iv(4, 9), iv(greatest, greatest)), of(1, 3, iv(0, 1)), of(greatest, greatest, iv(0, greatest-1)))}
	for _, c := range []struct {
		item, replica, counter uint64
		want                   bool
	}{
		{1, 1, 0, true}, {1, 1, 1, true}, {1, 1, 2, false}, {1, 1, 3, false}, {1, 1, 4, true}, {1, 1, 5, false}, {1, 1, greatest, false},
		{0, 1, 0, false}, {5, 1, 0, true}, {6, 1, 0, false}, {5, 1, 2, true}, {6, 1, 2, true}, {3, 1, 2, false}, {9, 1, 3, true}, {10, 1, 3, false},
		{4, 7, 0, true}, {4, 7, 1, false}, {6, 7, 0, false}, {4, 0, 0, false}, {4, 2, 0, false},
		{greatest, 1, 2, true}, {greatest - 1, 1, 2, false}, {greatest, greatest, greatest, true}, {greatest, greatest, greatest - 1, false}, {greatest, greatest, 0, false},
	} {
		checkHas(t, k, c.item, c.replica, c.counter, c.want)
	}
	for _, x := range []uint64{0, 1, greatest} {
		checkHas(t, nil, x, x, x, false)
		checkHas(t, api.Knowledge{on(nil, of(x, x)), on(list(iv(x, x))), {}}, x, x, x, false)
		checkHas(t, api.Knowledge{on(all(), of(x, x, iv(0, x)))}, x, x, x, false)
		checkHas(t, api.Knowledge{on(all(), of(x, x))}, x, x, x, true)
	}
}

func TestP14_3HasAllKnowledge(t *testing.T) {
	for _, s := range []space{
		{bottom(2), []uint64{3}, bottom(1)},
		{top(1), []uint64{greatest}, top(1)},
		{ends(), []uint64{0}, bottom(0)},
	} {
		replicas := append([]uint64{1}, s.replicas...)
		for _, k := range s.knowledge(2) {
			for _, items := range s.items {
				for _, replica := range replicas {
					for _, counters := range s.counters {
						want := knows(k, items.Lo, replica, counters.Lo)
						checkHas(t, k, items.Lo, replica, counters.Lo, want)
						checkHas(t, k, items.Hi, replica, counters.Hi, want)
					}
				}
			}
		}
	}
}

// wrongLists are lists that are not correct, with several errors of which one counts.
func wrongLists() []api.Ranges {
	return []api.Ranges{
		list(iv(2, 1)), list(iv(greatest, 0)), list(iv(1, 1), iv(4, 3)), list(iv(1, 1), iv(2, 2)), list(iv(1, 4), iv(4, 6)), list(iv(5, 6), iv(1, 2)),
		list(iv(0, greatest), iv(0, 0)), list(iv(1, 2), iv(4, 5), iv(7, 9), iv(8, 8)), list(iv(1, 2), iv(4, 5), iv(6, 5)), list(iv(1, 2), iv(3, 2), iv(1, 0)),
		list(iv(1, 2), iv(4, 5), iv(7, 7), iv(5, 5), iv(9, 8)),
	}
}

// wrongs returns knowledge that is not correct.
func wrongs() []api.Knowledge {
	good := on(list(iv(1, 2), iv(4, 5)), of(1, 9, iv(3, 4)), of(2, 2))
	var fragments []api.Fragment
	for _, l := range wrongLists() {
		fragments = append(fragments, on(l), on(l, of(1, 2)), on(nil, of(1, greatest, l...)), on(list(iv(3, 3)), of(1, 2), of(2, greatest, l...)), on(l, of(1, 3, l...)))
	}
	fragments = append(fragments,
		on(nil, of(1, 5, iv(6, 6))), on(list(iv(3, 3)), of(1, 5, iv(4, 6))), on(list(iv(3, 3)), of(1, 5), of(2, 0, iv(0, 1))), on(nil, of(1, greatest-1, iv(greatest, greatest))),
		on(list(iv(3, 3)), of(1, 5), of(1, 5)), on(nil, of(2, 5), of(1, 5)), on(list(iv(3, 3)), of(1, 5), of(greatest, 5), of(0, 5)),
		on(list(iv(3, 2)), of(1, 5), of(1, 5)), on(list(iv(3, 3), iv(4, 4)), of(1, 5, iv(6, 6))),
	)
	var all []api.Knowledge
	for i, f := range fragments {
		all = append(all, api.Knowledge{f}, api.Knowledge{good, f}, api.Knowledge{f, good}, api.Knowledge{{}, good, f, fragments[(i+7)%len(fragments)], good})
	}
	return all
}

// checkWrong checks that an error is that of a check, behind a name.
func checkWrong(t *testing.T, call, name string, err, want error) {
	t.Helper()
	if err == nil || want == nil {
		t.Fatalf("%s: the error is %v, and that of the check is %v", call, err, want)
	}
	if err.Error() != name+": "+want.Error() {
		t.Errorf("%s: %q, want %q", call, err.Error(), name+": "+want.Error())
	}
	code, at := fault.Code(want), fault.At(want)
	if fault.Code(err) != code || fault.At(err) != at {
		t.Errorf("%s: the code %d at %d, want %d at %d", call, fault.Code(err), fault.At(err), code, at)
	}
	var f api.Fault
	var number api.Errno
	if !errors.Is(err, code) || !errors.Is(err, api.Fault{Code: code, At: at}) || !errors.As(err, &f) || f.Code != code || f.At != at || !errors.As(err, &number) || number != code {
		t.Errorf("%s: errors.Is and errors.As do not find %v at %d in %v", call, code, at, err)
	}
	for other := api.ErrNil; other <= api.ErrOther; other++ {
		if errors.Is(err, other) != (other == code) {
			t.Errorf("%s: errors.Is finds %v in %v", call, other, err)
		}
	}
}

// call is a call of a function with knowledge in one place. It reports whether there is no result.
type call struct {
	name, place string
	run         func(k api.Knowledge) (nothing bool, err error)
}

// calls returns calls with an argument in each place.
func calls() []call {
	var l []call
	other := ascending()
	for _, o := range operations() {
		for _, fill := range []api.Knowledge{nil, other} {
			l = append(l, call{o.name, "left", func(k api.Knowledge) (bool, error) {
				got, err := o.run(k, fill)
				return len(got) == 0, err
			}}, call{o.name, "right", func(k api.Knowledge) (bool, error) {
				got, err := o.run(fill, k)
				return len(got) == 0, err
			}})
		}
	}
	for _, items := range []api.Ranges{nil, list(iv(1, 4), iv(7, 8)), all()} {
		l = append(l, call{"Project", "left", func(k api.Knowledge) (bool, error) {
			got, err := know.Project(k, items)
			return len(got) == 0, err
		}})
	}
	for _, x := range []uint64{0, 3, greatest} {
		l = append(l, call{"Insert", "left", func(k api.Knowledge) (bool, error) {
			got, err := know.Insert(k, x, x, x)
			return len(got) == 0, err
		}}, call{"Has", "left", func(k api.Knowledge) (bool, error) {
			got, err := know.Has(k, x, 1, 0)
			return !got, err
		}})
	}
	return l
}

// Each place with each wrong argument, and all others correct.
func TestP14_1Errors(t *testing.T) {
	for _, k := range wrongs() {
		want := scope.Check(k)
		for _, c := range calls() {
			nothing, err := c.run(k)
			if !nothing {
				t.Errorf("%s of the wrong %v as %s has a result", c.name, k, c.place)
			}
			checkWrong(t, c.name, c.place, err, want)
		}
	}
	for _, k := range []api.Knowledge{nil, {}, {{}}, ascending(), {on(nil, of(1, 3, iv(0, 3))), on(all()), on(all(), of(0, greatest))}} {
		for _, c := range calls() {
			if _, err := c.run(k); err != nil {
				t.Errorf("%s of the correct %v as %s: %v", c.name, k, c.place, err)
			}
		}
	}
}

// If both are wrong, the first one is reported, whatever is wrong with it.
func TestP14_1BothWrong(t *testing.T) {
	for _, o := range operations() {
		for i, a := range wrongs() {
			for j, b := range wrongs() {
				if (i+j)%7 != 0 {
					continue
				}
				got, err := o.run(a, b)
				if len(got) != 0 {
					t.Errorf("%s of the wrong %v and %v = %v", o.name, a, b, got)
				}
				checkWrong(t, o.name, "left", err, scope.Check(a))
			}
		}
	}
}

// Each code of the checks, with its text and its offset.
func TestP14_1Texts(t *testing.T) {
	good := ascending()
	for _, c := range []struct {
		f    api.Fragment
		code api.Errno
		text string
	}{
		{on(list(iv(2, 1))), api.ErrInverted, ": error 2"},
		{on(list(iv(1, 1), iv(2, 2))), api.ErrOrder, ": error 3"},
		{on(nil, of(1, 5, iv(5, 6))), api.ErrHole, ": error 4"},
		{on(list(iv(2, 1)), of(1, 5, iv(5, 6))), api.ErrInverted, ": error 2"},
	} {
		for at := range len(good) + 1 {
			k := slices.Insert(slices.Clone(good), at, c.f)
			for _, call := range calls() {
				nothing, err := call.run(k)
				if !nothing || err == nil || err.Error() != call.place+c.text || fault.Code(err) != c.code || fault.At(err) != at {
					t.Errorf("%s of %v as %s: %t, %v at %d, want %s at %d", call.name, k, call.place, nothing, err, fault.At(err), call.place+c.text, at)
				}
			}
		}
	}
}

func TestP14_2Errors(t *testing.T) {
	for _, items := range wrongLists() {
		want := ranges.Check(items)
		for _, k := range []api.Knowledge{nil, ascending(), {on(all(), of(1, 2))}} {
			got, err := know.Project(k, items)
			if len(got) != 0 {
				t.Errorf("Project(%v, %v) = %v", k, items, got)
			}
			checkWrong(t, "Project", "items", err, want)
		}
		for _, k := range wrongs() {
			got, err := know.Project(k, items)
			if len(got) != 0 {
				t.Errorf("Project(%v, %v) = %v", k, items, got)
			}
			checkWrong(t, "Project", "left", err, scope.Check(k))
		}
	}
	for _, c := range []struct {
		items api.Ranges
		code  api.Errno
		at    int
		text  string
	}{
		{list(iv(2, 1)), api.ErrInverted, 0, "items: error 2"},
		{list(iv(0, 0), iv(2, 3), iv(4, 5)), api.ErrOrder, 2, "items: error 3"},
		{list(iv(0, 0), iv(2, greatest), iv(1, 1)), api.ErrOrder, 2, "items: error 3"},
		{list(iv(0, 0), iv(2, greatest), iv(1, 0)), api.ErrInverted, 2, "items: error 2"},
	} {
		got, err := know.Project(ascending(), c.items)
		if len(got) != 0 || err == nil || err.Error() != c.text || fault.Code(err) != c.code || fault.At(err) != c.at {
			t.Errorf("Project(%v) = %v, %v at %d, want %s at %d", c.items, got, err, fault.At(err), c.text, c.at)
		}
	}
}

func TestP14_3Errors(t *testing.T) {
	for _, k := range wrongs() {
		want := scope.Check(k)
		for x := range tuples([]uint64{0, 3, greatest}, 3) {
			got, err := know.Insert(k, x[0], x[1], x[2])
			if len(got) != 0 {
				t.Errorf("Insert(%v, %v) = %v", k, x, got)
			}
			checkWrong(t, "Insert", "left", err, want)
			has, err := know.Has(k, x[0], x[1], x[2])
			if has {
				t.Errorf("Has(%v, %v) = %t", k, x, has)
			}
			checkWrong(t, "Has", "left", err, want)
		}
	}
	// A version that is known by a correct fragment is not told, either.
	has, err := know.Has(api.Knowledge{on(all(), of(1, 2)), on(list(iv(2, 1)))}, 5, 1, 2)
	if has || err == nil || err.Error() != "left: error 2" || fault.At(err) != 1 {
		t.Errorf("Has = %t, %v at %d", has, err, fault.At(err))
	}
}

// must returns the result of a call that must succeed.
func must(t *testing.T) func(k api.Knowledge, err error) api.Knowledge {
	return func(k api.Knowledge, err error) api.Knowledge {
		t.Helper()
		if err != nil {
			t.Errorf("%v, %v", k, err)
		}
		return k
	}
}

// checkLaws checks the laws of sets for three arguments.
func checkLaws(t *testing.T, a, b, c api.Knowledge) {
	t.Helper()
	ok := must(t)
	union := func(a, b api.Knowledge) api.Knowledge { return ok(know.Union(a, b)) }
	meet := func(a, b api.Knowledge) api.Knowledge { return ok(know.Meet(a, b)) }
	minus := func(a, b api.Knowledge) api.Knowledge { return ok(know.Minus(a, b)) }
	form := union(a, nil)
	for _, law := range []struct {
		name        string
		left, right api.Knowledge
	}{
		{"a + 0 = 0 + a", form, union(nil, a)},
		{"a + a = a", union(a, a), form},
		{"a * a = a", meet(a, a), form},
		{"a - 0 = a", minus(a, nil), form},
		{"a * 0 = 0", meet(a, nil), nil},
		{"0 * a = 0", meet(nil, a), nil},
		{"a - a = 0", minus(a, a), nil},
		{"0 - a = 0", minus(nil, a), nil},
		{"a + b = b + a", union(a, b), union(b, a)},
		{"a * b = b * a", meet(a, b), meet(b, a)},
		{"(a - b) + (a * b) = a", union(minus(a, b), meet(a, b)), form},
		{"(a - b) * b = 0", meet(minus(a, b), b), nil},
		{"(a - b) + b = a + b", union(minus(a, b), b), union(a, b)},
		{"a - (a - b) = a * b", minus(a, minus(a, b)), meet(a, b)},
		{"(a + b) - b = a - b", minus(union(a, b), b), minus(a, b)},
		{"a * (a + b) = a", meet(a, union(a, b)), form},
		{"a + (a * b) = a", union(a, meet(a, b)), form},
		{"(a + b) + c = a + (b + c)", union(union(a, b), c), union(a, union(b, c))},
		{"(a * b) * c = a * (b * c)", meet(meet(a, b), c), meet(a, meet(b, c))},
		{"a * (b + c) = (a * b) + (a * c)", meet(a, union(b, c)), union(meet(a, b), meet(a, c))},
		{"a + (b * c) = (a + b) * (a + c)", union(a, meet(b, c)), meet(union(a, b), union(a, c))},
		{"a - (b + c) = (a - b) * (a - c)", minus(a, union(b, c)), meet(minus(a, b), minus(a, c))},
		{"a - (b * c) = (a - b) + (a - c)", minus(a, meet(b, c)), union(minus(a, b), minus(a, c))},
		{"(a - b) - c = a - (b + c)", minus(minus(a, b), c), minus(a, union(b, c))},
		{"(a * b) - c = a * (b - c)", minus(meet(a, b), c), meet(a, minus(b, c))},
	} {
		if !same(law.left, law.right) {
			t.Errorf("%s for %v, %v and %v: %v and %v", law.name, a, b, c, law.left, law.right)
		}
	}
}

func TestP14_4Laws(t *testing.T) {
	s := space{bottom(1), []uint64{3}, bottom(1)}
	for l := range tuples(s.forms(), 3) {
		checkLaws(t, l[0], l[1], l[2])
	}
	random := rand.New(rand.NewSource(146))
	for round := range 100 {
		a, b, c := randomKnowledge(random, round%5), randomKnowledge(random, round%4), randomKnowledge(random, round%3)
		checkLaws(t, a, b, c)
		checkLaws(t, a, far(b), append(clone(c), far(c)...))
	}
	for _, c := range edges() {
		checkLaws(t, c.a, c.b, ascending())
		checkLaws(t, far(c.b), c.union, c.left)
	}
}

// rest returns the items that are not in a correct list.
func rest(l api.Ranges) api.Ranges {
	var r api.Ranges
	from := uint64(0)
	for _, s := range l {
		if s.Lo > from {
			r = append(r, iv(from, s.Lo-1))
		}
		if s.Hi == greatest {
			return r
		}
		from = s.Hi + 1
	}
	return append(r, iv(from, greatest))
}

// checkParts checks that knowledge is separated by its projections to some items and to the others.
func checkParts(t *testing.T, k api.Knowledge, items api.Ranges) {
	t.Helper()
	ok := must(t)
	inside, outside := ok(know.Project(k, items)), ok(know.Project(k, rest(items)))
	form := ok(know.Union(k, nil))
	for _, law := range []struct {
		name        string
		left, right api.Knowledge
	}{
		{"the union of both parts", ok(know.Union(inside, outside)), form},
		{"the union of both parts, turned", ok(know.Union(outside, inside)), form},
		{"what is in both parts", ok(know.Meet(inside, outside)), nil},
		{"what is not in the part", ok(know.Minus(k, inside)), outside},
		{"what is not in the other part", ok(know.Minus(k, outside)), inside},
		{"the projection of the part", ok(know.Project(inside, items)), inside},
		{"the projection of the other part", ok(know.Project(outside, items)), nil},
		{"the projection to all items", ok(know.Project(k, all())), form},
		{"the projection to no items", ok(know.Project(k, nil)), nil},
	} {
		if !same(law.left, law.right) {
			t.Errorf("%s for %v and %v: %v, want %v", law.name, k, items, law.left, law.right)
		}
	}
	for _, f := range inside {
		for _, s := range f.Items {
			if !contains(items, s.Lo) || !contains(items, s.Hi) {
				t.Errorf("Project(%v, %v) has the items %v", k, items, s)
			}
		}
	}
}

func TestP14_4Parts(t *testing.T) {
	for _, s := range []space{{bottom(2), []uint64{3}, bottom(1)}, {ends(), []uint64{7}, bottom(0)}} {
		for _, k := range s.forms() {
			for _, items := range s.items.lists() {
				checkParts(t, k, items)
			}
		}
	}
	random := rand.New(rand.NewSource(147))
	for round := range 200 {
		items := randomRanges(random, uint64(random.Intn(30)), uint64(random.Intn(7)))
		checkParts(t, randomKnowledge(random, round%6), items)
	}
	for _, c := range edges() {
		for _, items := range []api.Ranges{list(iv(4, 4)), list(iv(0, 3), iv(5, 5)), list(iv(2, greatest)), list(iv(0, 0), iv(greatest, greatest))} {
			checkParts(t, c.a, items)
			checkParts(t, c.b, items)
		}
	}
}

// The projection of an operation is the operation on projections, and an insertion is a union.
func TestP14_4OtherLaws(t *testing.T) {
	random := rand.New(rand.NewSource(148))
	ok := must(t)
	for round := range 200 {
		a, b := randomKnowledge(random, round%6), randomKnowledge(random, round/6%6)
		items := randomRanges(random, uint64(random.Intn(30)), uint64(random.Intn(7)))
		for _, o := range operations() {
			left := ok(know.Project(ok(o.run(a, b)), items))
			right := ok(o.run(ok(know.Project(a, items)), ok(know.Project(b, items))))
			if !same(left, right) {
				t.Errorf("%s of %v and %v for the items %v: %v and %v", o.name, a, b, items, left, right)
			}
		}
		item, replica, counter := uint64(random.Intn(64)), uint64(random.Intn(6)), uint64(1+random.Intn(33))
		version := api.Knowledge{on(list(iv(item, item)), of(replica, counter, iv(0, counter-1)))}
		inserted := ok(know.Insert(a, item, replica, counter))
		if want := ok(know.Union(a, version)); !same(inserted, want) {
			t.Errorf("Insert(%v, %d, %d, %d) = %v, want %v", a, item, replica, counter, inserted, want)
		}
		if want := ok(know.Insert(inserted, item, replica, counter)); !same(inserted, want) {
			t.Errorf("inserting (%d, %d, %d) again makes %v of %v", item, replica, counter, want, inserted)
		}
		checkHas(t, inserted, item, replica, counter, true)
		checkHas(t, ok(know.Minus(a, version)), item, replica, counter, false)
		checkHas(t, ok(know.Meet(a, version)), item, replica, counter, knows(a, item, replica, counter))
	}
}

func TestExampleOfTheChapter(t *testing.T) {
	k, err := know.Insert(nil, 3, 7, 0)
	checkResult(t, "Insert", k, err, api.Knowledge{on(list(iv(3, 3)), of(7, 0))})
	k, err = know.Union(nil, api.Knowledge{on(list(iv(2, 1)))})
	if len(k) != 0 || err == nil || err.Error() != "right: error 2" {
		t.Errorf("Union = %v, %v", k, err)
	}
}

// P1: no argument makes a function panic or run on; results are there exactly if there is no error.
func TestP1AllArguments(t *testing.T) {
	pool := []api.Knowledge{
		nil, {}, {{}}, ascending(), {on(all(), of(0, greatest))}, {on(all(), of(greatest, greatest, iv(0, greatest)))}, {on(all()), on(all()), on(nil, of(1, 2))},
	}
	pool = append(pool, wrongs()[:40]...)
	var many api.Knowledge
	for x := range uint64(200) {
		many = append(many, on(list(iv(x, x), iv(x, x), iv(x+1, 0)), of(5, x, iv(x, x), iv(x, x), iv(x+1, 0)), of(greatest-x, 9)))
	}
	pool = append(pool, many)
	check := func(name string, got api.Knowledge, err error, correct bool) {
		t.Helper()
		if (err == nil) != correct || err != nil && len(got) != 0 || !canonical(got) {
			t.Errorf("%s = %v, %v", name, got, err)
		}
	}
	for _, a := range pool {
		correct := scope.Check(a) == nil
		for _, b := range pool {
			for _, o := range operations() {
				got, err := o.run(a, b)
				check(o.name, got, err, correct && scope.Check(b) == nil)
			}
		}
		for _, items := range append(wrongLists(), nil, all(), list(iv(0, 0), iv(2, greatest))) {
			got, err := know.Project(a, items)
			check("Project", got, err, correct && ranges.Check(items) == nil)
		}
		for x := range tuples([]uint64{0, 1, greatest - 1, greatest}, 3) {
			got, err := know.Insert(a, x[0], x[1], x[2])
			check("Insert", got, err, correct)
			if has, err := know.Has(a, x[0], x[1], x[2]); (err == nil) != correct || err != nil && has {
				t.Errorf("Has(%v, %v) = %t, %v", a, x, has, err)
			}
		}
	}
}

// overwriteList changes all memory of a list, also behind its end.
func overwriteList(l api.Ranges) {
	l = l[:cap(l)]
	for i := range l {
		l[i] = iv(78, 78)
	}
}

// overwriteVector changes all memory of a vector: its entries and their holes.
func overwriteVector(v api.Vector) {
	v = v[:cap(v)]
	for i := range v {
		overwriteList(v[i].Holes)
		v[i] = of(77, 77, iv(77, 77))
	}
}

// overwrite changes all memory of knowledge: its fragments, and all that they have.
func overwrite(k api.Knowledge) {
	k = k[:cap(k)]
	for i := range k {
		overwriteList(k[i].Items)
		overwriteVector(k[i].Vector)
		k[i] = on(list(iv(76, 76)), of(76, 76))
	}
}

// ofList returns the places of all numbers of a list.
func ofList(r api.Ranges) []*uint64 {
	var l []*uint64
	for i := range r {
		l = append(l, &r[i].Lo, &r[i].Hi)
	}
	return l
}

// fields returns the places of all numbers of knowledge.
func fields(k api.Knowledge) []*uint64 {
	var l []*uint64
	for _, f := range k {
		l = append(l, ofList(f.Items)...)
		for i := range f.Vector {
			l = append(l, &f.Vector[i].Replica, &f.Vector[i].Max)
			l = append(l, ofList(f.Vector[i].Holes)...)
		}
	}
	return l
}

// sample returns knowledge with several fragments, intervals, entries and holes, whose parts share memory.
func sample() api.Knowledge {
	holes := list(iv(1, 1), iv(3, 4), iv(6, 6))
	v := api.Vector{of(1, 9, holes...), of(4, 12, holes[1:]...), of(6, 5, holes[:2]...), of(7, 8, holes...)}
	items := list(iv(1, 3), iv(5, 8), iv(10, 10), iv(20, 29), iv(40, greatest))
	return api.Knowledge{on(items[1:2], v[:1]...), on(items[3:], v[1:2]...), on(items[:1], v[:2]...), on(items[2:3], v...)}
}

// crossing returns knowledge with items of the sample in several fragments.
func crossing() api.Knowledge {
	holes := list(iv(0, 2), iv(5, 7))
	v := api.Vector{of(1, 12, holes...), of(5, 9, holes...)}
	return api.Knowledge{on(list(iv(2, 6), iv(28, 44)), v...), on(list(iv(0, 60)), v[1:]...), on(list(iv(60, 70)), v[:1]...), on(nil, v...), on(list(iv(6, 6)))}
}

// results returns calls whose results have parts of all kinds of both arguments, also unchanged ones.
func results(a, b api.Knowledge, items api.Ranges) map[string]func() api.Knowledge {
	all := map[string]func() api.Knowledge{}
	add := func(name string, run func() (api.Knowledge, error)) {
		all[name] = func() api.Knowledge {
			k, err := run()
			if err != nil {
				panic(err)
			}
			return k
		}
	}
	for _, o := range operations() {
		add(o.name, func() (api.Knowledge, error) { return o.run(a, b) })
		add(o.name+", turned", func() (api.Knowledge, error) { return o.run(b, a) })
		add(o.name+" with nothing", func() (api.Knowledge, error) { return o.run(a, nil) })
		add(o.name+" of nothing", func() (api.Knowledge, error) { return o.run(nil, a) })
		add(o.name+" with itself", func() (api.Knowledge, error) { return o.run(a, a) })
	}
	add("Project", func() (api.Knowledge, error) { return know.Project(a, items) })
	add("Insert", func() (api.Knowledge, error) { return know.Insert(a, 5, 4, 2) })
	add("Insert of what is known", func() (api.Knowledge, error) { return know.Insert(a, 5, 1, 0) })
	return all
}

// Rule 4: no argument is changed, nothing behind its end is read or changed, and no result shares memory with it.
func TestArgumentsStay(t *testing.T) {
	memories := []api.Knowledge{sample(), crossing()}
	before := []api.Knowledge{sample(), crossing()}
	items := list(iv(0, 2), iv(5, 5), iv(8, 25), iv(30, greatest))
	itemsBefore := slices.Clone(items)
	for i := range len(memories[0]) + 1 {
		for j := range len(memories[1]) + 1 {
			shown := i % (len(items) + 1)
			given := results(memories[0][:i], memories[1][:j], items[:shown])
			fresh := results(clone(before[0][:i]), clone(before[1][:j]), slices.Clone(itemsBefore[:shown]))
			for name, run := range given {
				got := run()
				if want := fresh[name](); !same(got, want) {
					t.Errorf("what is behind the end of %v or %v makes %v of %s, not %v", memories[0][:i], memories[1][:j], got, name, want)
				}
				overwrite(got)
				if !same(memories[0], before[0]) || !same(memories[1], before[1]) || !slices.Equal(items, itemsBefore) {
					t.Fatalf("%s, or a change of its result, makes %v, %v and %v of its arguments", name, memories[0], memories[1], items)
				}
			}
			for x := range uint64(14) {
				checkHas(t, memories[0][:i], x, x%9, x, knows(before[0][:i], x, x%9, x))
			}
		}
	}
}

// Rule 4: wrong arguments are not changed, either.
func TestWrongArgumentsStay(t *testing.T) {
	for i, k := range wrongs() {
		for _, c := range calls() {
			c.run(k)
		}
		if want := wrongs()[i]; !same(k, want) {
			t.Fatalf("%v is %v", want, k)
		}
	}
	for i, items := range wrongLists() {
		know.Project(sample(), items)
		if want := wrongLists()[i]; !slices.Equal(items, want) {
			t.Fatalf("%v is %v", want, items)
		}
	}
}

// Each number of an argument is changed alone: no result shares memory with it.
func TestSharesNoMemory(t *testing.T) {
	a, b, items := sample(), crossing(), list(iv(0, 2), iv(5, 5), iv(8, 25), iv(30, greatest))
	for name, run := range results(a, b, items) {
		want := run()
		for _, place := range slices.Concat(fields(a), fields(b), ofList(items)) {
			got := run()
			*place += 1000
			if !same(got, want) {
				t.Errorf("a change of an argument makes %v of the result of %s that was %v", got, name, want)
			}
			*place -= 1000
		}
	}
}

// P2 and rule 4: a result stays as it is when the arguments or another result change.
func TestP2Independent(t *testing.T) {
	for name := range results(nil, nil, nil) {
		a, b, items := sample(), crossing(), list(iv(0, 2), iv(5, 5), iv(8, 25), iv(30, greatest))
		run := results(a, b, items)[name]
		got := run()
		want := clone(got)
		overwrite(run())
		if !same(got, want) || !same(run(), want) {
			t.Errorf("a change of another result makes %v of the result of %s", got, name)
		}
		overwrite(a)
		overwrite(b)
		overwriteList(items)
		if !same(got, want) {
			t.Errorf("a change of the arguments makes %v of the result of %s", got, name)
		}
	}
}

// No two parts of a result share memory, even if they do so in the arguments.
func TestPartsOfResults(t *testing.T) {
	for name, run := range results(sample(), crossing(), list(iv(0, 2), iv(5, 5), iv(8, 25), iv(30, greatest))) {
		want := run()
		for i := range fields(want) {
			got, left := run(), clone(want)
			*fields(got)[i] += 1000
			*fields(left)[i] += 1000
			if !same(got, left) {
				t.Errorf("a change of the number %d of the result of %s makes %v of it", i, name, got)
			}
		}
		got := run()
		for i := range got {
			_ = append(got[i].Items, iv(99, 99))
			for j := range got[i].Vector {
				_ = append(got[i].Vector[j].Holes, iv(98, 98))
			}
			_ = append(got[i].Vector, of(97, 97))
		}
		if !same(got, want) {
			t.Errorf("what is appended to parts of the result of %s makes %v of it", name, got)
		}
	}
}

// Rule 7: the results are the same in each call.
func TestDeterminism(t *testing.T) {
	random := rand.New(rand.NewSource(149))
	for range 10 {
		a, b, items := randomKnowledge(random, 12), randomKnowledge(random, 12), randomRanges(random, 3, 6)
		for name, run := range results(a, b, items) {
			want := run()
			for range 10 {
				if got := run(); !same(got, want) {
					t.Errorf("%s is %v, and then %v", name, want, got)
				}
			}
		}
	}
}

// Rule 6: the functions may be called concurrently, also with the same arguments.
func TestConcurrent(t *testing.T) {
	a, b, wrong := sample(), crossing(), api.Knowledge{on(list(iv(2, 1)))}
	calls := results(a, b, list(iv(0, 2), iv(5, 5), iv(8, 25)))
	want := map[string]api.Knowledge{}
	for name, run := range calls {
		want[name] = run()
	}
	var wait sync.WaitGroup
	for range 8 {
		wait.Go(func() {
			for name, run := range calls {
				if got := run(); !same(got, want[name]) {
					t.Errorf("%s is %v, want %v", name, got, want[name])
				}
				checkHas(t, a, 5, 1, 2, true)
				if got, err := know.Minus(a, wrong); len(got) != 0 || err == nil || err.Error() != "right: error 2" {
					t.Errorf("Minus = %v, %v", got, err)
				}
			}
		})
	}
	wait.Wait()
	if !same(a, sample()) || !same(b, crossing()) {
		t.Errorf("the arguments are %v and %v", a, b)
	}
}
