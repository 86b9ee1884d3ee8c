package order_test

import (
	"errors"
	"iter"
	"math"
	"math/rand"
	"slices"
	"sync"
	"testing"

	"kenning/api"
	"kenning/canon"
	"kenning/fault"
	"kenning/know"
	"kenning/order"
	"kenning/scope"
)

const greatest = math.MaxUint64

func iv(lo, hi uint64) api.Interval { return api.Interval{Lo: lo, Hi: hi} }

// list returns a list of intervals.
func list(l ...api.Interval) api.Ranges { return l }

// of returns an entry.
func of(replica, last uint64, holes ...api.Interval) api.Entry {
	return api.Entry{Replica: replica, Max: last, Holes: holes}
}

// on returns a fragment.
func on(items api.Ranges, entries ...api.Entry) api.Fragment {
	return api.Fragment{Items: items, Vector: entries}
}

// all returns the list of all numbers.
func all() api.Ranges { return list(iv(0, greatest)) }

// k returns knowledge.
func k(fragments ...api.Fragment) api.Knowledge { return fragments }

// maybe is a triple, or nothing.
type maybe []order.Triple

// at returns a triple.
func at(item, replica, counter uint64) maybe {
	return maybe{{Item: item, Replica: replica, Counter: counter}}
}

// clone returns a copy of knowledge.
func clone(k api.Knowledge) api.Knowledge {
	var l api.Knowledge
	for _, f := range k {
		g := on(slices.Clone(f.Items))
		for _, e := range f.Vector {
			g.Vector = append(g.Vector, of(e.Replica, e.Max, slices.Clone(e.Holes)...))
		}
		l = append(l, g)
	}
	return l
}

// same compares knowledge field by field.
func same(a, b api.Knowledge) bool {
	return slices.EqualFunc(a, b, func(f, g api.Fragment) bool {
		return slices.Equal(f.Items, g.Items) && slices.EqualFunc(f.Vector, g.Vector, func(e, f api.Entry) bool {
			return e.Replica == f.Replica && e.Max == f.Max && slices.Equal(e.Holes, f.Holes)
		})
	})
}

// contains reports whether a number is in one of some intervals.
func contains(l api.Ranges, x uint64) bool {
	return slices.ContainsFunc(l, func(s api.Interval) bool { return s.Lo <= x && x <= s.Hi })
}

// knows reports whether a triple is known, as the document says it.
func knows(k api.Knowledge, x order.Triple) bool {
	return slices.ContainsFunc(k, func(f api.Fragment) bool {
		return contains(f.Items, x.Item) && slices.ContainsFunc(f.Vector, func(e api.Entry) bool {
			return e.Replica == x.Replica && x.Counter <= e.Max && !contains(e.Holes, x.Counter)
		})
	})
}

// around returns some numbers, and those next to them.
func around(numbers []uint64) []uint64 {
	l := []uint64{0, greatest}
	for _, x := range numbers {
		// Both may wrap around, which is as good as any other number.
		l = append(l, x-1, x, x+1)
	}
	slices.Sort(l)
	return slices.Compact(l)
}

// probes yields triples in ascending order: all whose items, replicas and counters are numbers at which something changes in some knowledge, or next to them. So the least triple of any combination of it is one of them.
func probes(all ...api.Knowledge) iter.Seq[order.Triple] {
	var items, replicas, counters []uint64
	for _, f := range slices.Concat(all...) {
		for _, s := range f.Items {
			items = append(items, s.Lo, s.Hi)
		}
		for _, e := range f.Vector {
			replicas, counters = append(replicas, e.Replica), append(counters, e.Max)
			for _, hole := range e.Holes {
				counters = append(counters, hole.Lo, hole.Hi)
			}
		}
	}
	return func(yield func(order.Triple) bool) {
		for _, item := range around(items) {
			for _, replica := range around(replicas) {
				for _, counter := range around(counters) {
					if !yield(order.Triple{Item: item, Replica: replica, Counter: counter}) {
						return
					}
				}
			}
		}
	}
}

// answer tells how two sets of triples are related: whether some triple is in both, and the least triple that is in one of them alone.
type answer struct {
	both        bool
	left, right maybe
}

// subset reports whether the first set is a subset of the second one.
func (a answer) subset() bool { return len(a.left) == 0 }

// turned returns the answer for the sets in the other order.
func (a answer) turned() answer { return answer{a.both, a.right, a.left} }

// relation returns the number of the relation, as the document says it.
func (a answer) relation() int {
	switch {
	case a.subset() && a.turned().subset():
		return 0
	case a.subset():
		return 1
	case a.turned().subset():
		return 2
	}
	return 3
}

// put adds a triple that is not less than those before it, with its membership in both sets.
func (a *answer) put(x order.Triple, inLeft, inRight bool) {
	switch {
	case inLeft && inRight:
		a.both = true
	case inLeft && len(a.left) == 0:
		a.left = maybe{x}
	case inRight && len(a.right) == 0:
		a.right = maybe{x}
	}
}

// answerOf returns the answer for some knowledge, triple by triple.
func answerOf(a, b api.Knowledge) answer {
	var all answer
	for x := range probes(a, b) {
		all.put(x, knows(a, x), knows(b, x))
	}
	return all
}

// checkRelations checks P15.1 for two arguments.
func checkRelations(t *testing.T, a, b api.Knowledge, want answer) {
	t.Helper()
	if got, err := order.Subset(a, b); got != want.subset() || err != nil {
		t.Errorf("Subset(%v, %v) = %t, %v, want %t", a, b, got, err, want.subset())
	}
	if got, err := order.Disjoint(a, b); got == want.both || err != nil {
		t.Errorf("Disjoint(%v, %v) = %t, %v, want %t", a, b, got, err, !want.both)
	}
	if got, err := order.Relate(a, b); got != want.relation() || err != nil {
		t.Errorf("Relate(%v, %v) = %d, %v, want %d", a, b, got, err, want.relation())
	}
}

// is reports whether results are those that are wanted: the triple and true, or a zero Triple and false.
func (m maybe) is(got order.Triple, ok bool, err error) bool {
	if len(m) == 0 {
		return got == order.Triple{} && !ok && err == nil
	}
	return got == m[0] && ok && err == nil
}

// checkLeast checks Least.
func checkLeast(t *testing.T, k api.Knowledge, want maybe) {
	t.Helper()
	if got, ok, err := order.Least(k); !want.is(got, ok, err) {
		t.Errorf("Least(%v) = %v, %t, %v, want %v", k, got, ok, err, want)
	}
}

// checkWitness checks Witness.
func checkWitness(t *testing.T, a, b api.Knowledge, want maybe) {
	t.Helper()
	if got, ok, err := order.Witness(a, b); !want.is(got, ok, err) {
		t.Errorf("Witness(%v, %v) = %v, %t, %v, want %v", a, b, got, ok, err, want)
	}
}

// checkTriples checks P15.2 for two arguments.
func checkTriples(t *testing.T, a, b api.Knowledge, want answer) {
	t.Helper()
	checkWitness(t, a, b, want.left)
	checkWitness(t, b, a, want.right)
}

// checkConsequences checks P15.3 for two arguments, by what the functions return.
func checkConsequences(t *testing.T, a, b api.Knowledge) {
	t.Helper()
	subset, err1 := order.Subset(a, b)
	_, found, err2 := order.Witness(a, b)
	relation, err3 := order.Relate(a, b)
	if err1 != nil || err2 != nil || err3 != nil {
		t.Errorf("%v and %v: %v, %v, %v", a, b, err1, err2, err3)
	}
	if subset == found {
		t.Errorf("%v and %v: Subset is %t, but a witness is found: %t", a, b, subset, found)
	}
	if form := same(canon.Canon(a), canon.Canon(b)); form != (relation == order.Equal) {
		t.Errorf("%v and %v: the relation is %d, but the canonical forms are the same: %t", a, b, relation, form)
	}
}

// tuples yields all lists of a length whose elements are of a pool.
func tuples[T any](pool []T, length int) iter.Seq[[]T] {
	total := 1
	for range length {
		total *= len(pool)
	}
	return func(yield func([]T) bool) {
		for number := range total {
			l := make([]T, length)
			for i := range l {
				l[i] = pool[number%len(pool)]
				number /= len(pool)
			}
			if !yield(l) {
				return
			}
		}
	}
}

// line is some cells in ascending order, each one directly behind the one before it, which have all numbers. A set of cells is a number with a bit for each.
type line []api.Interval

// bottom returns the line of the least numbers, one of each cell, and all numbers behind them.
func bottom(count uint64) line {
	var l line
	for x := range count {
		l = append(l, iv(x, x))
	}
	return append(l, iv(count, greatest))
}

// top returns the line of the greatest numbers, one of each cell, and all numbers in front of them.
func top(count uint64) line {
	l := line{iv(0, greatest-count)}
	for x := range count {
		l = append(l, iv(greatest-count+1+x, greatest-count+1+x))
	}
	return l
}

// ends returns the line of the least number, of the greatest one, and of those between them.
func ends() line {
	return line{iv(0, 0), iv(1, 1<<63), iv(1<<63+1, greatest-1), iv(greatest, greatest)}
}

// list returns the list of a set: one interval for each run of cells.
func (l line) list(set uint) api.Ranges {
	var r api.Ranges
	for i, cell := range l {
		switch {
		case set>>i&1 == 0:
		case i > 0 && set>>(i-1)&1 == 1:
			r[len(r)-1].Hi = cell.Hi
		default:
			r = append(r, cell)
		}
	}
	return r
}

// up returns the set of the cells up to one.
func up(cell int) uint { return 1<<(cell+1) - 1 }

// space is some replicas in ascending order, and the cells of items and of counters. The numbers of a cell are alike in all knowledge of a space.
type space struct {
	items    line
	replicas []uint64
	counters line
}

// vectors returns all correct vectors of a space, also those whose Max is in a hole.
func (s space) vectors() []api.Vector {
	all := []api.Vector{nil}
	for _, replica := range s.replicas {
		longer := slices.Clone(all)
		for _, v := range all {
			for last, cell := range s.counters {
				for holes := range up(last) + 1 {
					longer = append(longer, append(slices.Clip(v), of(replica, cell.Hi, s.counters.list(holes)...)))
				}
			}
		}
		all = longer
	}
	return all
}

// fragments returns all correct fragments of a space.
func (s space) fragments() []api.Fragment {
	var all []api.Fragment
	for set := range uint(1) << len(s.items) {
		for _, v := range s.vectors() {
			all = append(all, on(s.items.list(set), v...))
		}
	}
	return all
}

// knowledge returns all correct knowledge of a space with at most some fragments.
func (s space) knowledge(most int) []api.Knowledge {
	var all []api.Knowledge
	for count := range most + 1 {
		for k := range tuples(s.fragments(), count) {
			all = append(all, k)
		}
	}
	return all
}

// sets returns knowledge for each set of triples of a space, with a fragment for each cell of items, from the last cell on.
func (s space) sets() []api.Knowledge {
	var vectors []api.Vector
	for _, v := range s.vectors() {
		if canon.Canonical(k(on(all(), v...))) {
			vectors = append(vectors, v)
		}
	}
	var knowledge []api.Knowledge
	for l := range tuples(append(vectors, nil), len(s.items)) {
		var k api.Knowledge
		for i, v := range l {
			k = append(k, on(list(s.items[len(l)-1-i]), v...))
		}
		knowledge = append(knowledge, k)
	}
	return knowledge
}

// triples returns the first triple of each cell of a space, in ascending order.
func (s space) triples() []order.Triple {
	var l []order.Triple
	for _, items := range s.items {
		for _, replica := range s.replicas {
			for _, counters := range s.counters {
				l = append(l, order.Triple{Item: items.Lo, Replica: replica, Counter: counters.Lo})
			}
		}
	}
	return l
}

// row has, for each triple of a space, whether it is known.
type row []bool

// row returns what is known.
func (s space) row(k api.Knowledge) row {
	var r row
	for _, x := range s.triples() {
		r = append(r, knows(k, x))
	}
	return r
}

// answers yields all pairs of two pools of a space with their answers.
func (s space) answers(a, b []api.Knowledge) iter.Seq2[[2]api.Knowledge, answer] {
	triples := s.triples()
	var rows []row
	for _, l := range b {
		rows = append(rows, s.row(l))
	}
	return func(yield func([2]api.Knowledge, answer) bool) {
		for _, k := range a {
			known := s.row(k)
			for i, l := range b {
				var want answer
				for j, x := range triples {
					want.put(x, known[j], rows[i][j])
				}
				if !yield([2]api.Knowledge{k, l}, want) {
					return
				}
			}
		}
	}
}

// pools yields the pairs of all knowledge of some small spaces with their answers: with fragments that meet, with two replicas, with the greatest numbers, and with all numbers.
func pools() iter.Seq2[[2]api.Knowledge, answer] {
	small := space{bottom(1), []uint64{0}, bottom(0)}
	one := space{bottom(2), []uint64{3}, bottom(1)}
	two := space{bottom(0), []uint64{0, 2}, bottom(1)}
	high := space{top(1), []uint64{greatest}, top(1)}
	wide := space{ends(), []uint64{7}, bottom(0)}
	return func(yield func([2]api.Knowledge, answer) bool) {
		for _, c := range []struct {
			space
			a, b []api.Knowledge
		}{
			{small, small.knowledge(2), small.knowledge(2)},
			{one, one.sets(), one.sets()},
			{one, one.knowledge(1), one.sets()},
			{one, one.knowledge(2), one.sets()[25:28]},
			{two, two.knowledge(1), two.knowledge(1)},
			{high, high.knowledge(1), high.knowledge(1)},
			{high, high.sets(), high.sets()},
			{wide, wide.sets(), wide.sets()},
		} {
			for pair, want := range c.answers(c.a, c.b) {
				if !yield(pair, want) {
					return
				}
			}
		}
	}
}

// randomRanges returns a list of intervals with numbers between them, the first one not before a number.
func randomRanges(random *rand.Rand, from, count uint64) api.Ranges {
	var l api.Ranges
	for range count {
		lo := from + uint64(random.Intn(4))
		hi := lo + uint64(random.Intn(4))
		l = append(l, iv(lo, hi))
		from = hi + 2
	}
	return l
}

// randomVector returns a correct vector of replicas up to 4.
func randomVector(random *rand.Rand) api.Vector {
	var v api.Vector
	for replica := range uint64(5) {
		if random.Intn(2) == 0 {
			continue
		}
		holes := randomRanges(random, uint64(random.Intn(3)), uint64(random.Intn(4)))
		last := uint64(random.Intn(12))
		if len(holes) > 0 {
			last = max(holes[len(holes)-1].Hi, last)
		}
		v = append(v, of(replica, last, holes...))
	}
	return v
}

// randomKnowledge returns correct knowledge of low numbers.
func randomKnowledge(random *rand.Rand, count int) api.Knowledge {
	var k api.Knowledge
	for range count {
		k = append(k, on(randomRanges(random, uint64(random.Intn(20)), uint64(random.Intn(6))), randomVector(random)...))
	}
	return k
}

// far returns knowledge like some of low numbers, whose numbers are the greatest ones.
func far(k api.Knowledge) api.Knowledge {
	move := func(l api.Ranges) {
		for i := range l {
			l[i] = iv(greatest-l[i].Hi, greatest-l[i].Lo)
		}
		slices.Reverse(l)
	}
	k = clone(k)
	for _, f := range k {
		move(f.Items)
		for i, e := range f.Vector {
			move(e.Holes)
			f.Vector[i] = of(greatest-e.Replica, greatest-uint64(len(e.Holes)%2), e.Holes...)
			if len(e.Holes) > 0 {
				f.Vector[i].Max = max(f.Vector[i].Max, e.Holes[len(e.Holes)-1].Hi)
			}
		}
		slices.Reverse(f.Vector)
	}
	return k
}

// randomPairs yields pairs of random knowledge: of low numbers, of the greatest ones, and of both; also pairs of which one is a part of the other one, or the same in another form.
func randomPairs(seed int64, rounds int) iter.Seq2[api.Knowledge, api.Knowledge] {
	random := rand.New(rand.NewSource(seed))
	return func(yield func(a, b api.Knowledge) bool) {
		for round := range rounds {
			a, b := randomKnowledge(random, round%4), randomKnowledge(random, round/4%4)
			mixed := append(clone(b), clone(a)...)
			if !yield(a, b) || !yield(far(a), far(b)) || !yield(append(clone(a), far(b)...), append(clone(b), far(a)...)) || !yield(a, mixed) || !yield(canon.Canon(mixed), mixed) {
				return
			}
		}
	}
}

// ascending returns canonical knowledge with several fragments, whose intervals alternate and touch.
func ascending() api.Knowledge {
	return k(
		on(list(iv(3, 4), iv(9, 9), iv(20, 29)), of(1, 5)),
		on(list(iv(0, 0), iv(5, 6)), of(1, 5, iv(2, 3))),
		on(list(iv(7, 8), iv(greatest, greatest)), of(2, 0)),
		on(list(iv(12, 12)), of(1, 5), of(2, 0)),
	)
}

// edge is two arguments, and what the functions answer.
type edge struct {
	name string
	a, b api.Knowledge
	want answer
}

// edges returns edge cases, which are checked in both orders.
func edges() []edge {
	one, two, holes := of(1, 9), of(2, 6), of(1, 9, iv(3, 5))
	empty := k(on(all(), of(3, 4, iv(0, 4))), on(nil, one), on(list(iv(1, 2))), api.Fragment{})
	a := k(on(list(iv(1, 5)), one))
	return []edge{
		// Nothing is known.
		{"nothing", nil, nil, answer{}},
		{"nothing, not nil", k(), api.Knowledge{}, answer{}},
		{"nothing known", nil, empty, answer{}},
		{"nothing known by both", k(on(list(iv(4, 4)), of(0, 0, iv(0, 0)))), empty, answer{}},
		{"something and nothing", a, nil, answer{left: at(1, 1, 0)}},
		{"something and nothing known", a, empty, answer{left: at(1, 1, 0)}},
		// The same sets, also in other forms.
		{"the same", ascending(), ascending(), answer{both: true}},
		{"not in order", ascending(), k(ascending()[2], ascending()[3], ascending()[0], ascending()[1]), answer{both: true}},
		{"twice", ascending(), append(ascending(), ascending()...), answer{both: true}},
		{"with nothing known", ascending(), append(empty, ascending()...), answer{both: true}},
		{"items divided", a, k(on(list(iv(3, 5)), one), on(list(iv(1, 2)), one)), answer{both: true}},
		{"fragments that meet", a, k(on(list(iv(1, 4)), one), on(list(iv(3, 5)), one)), answer{both: true}},
		{"counters divided", k(on(all(), one)), k(on(all(), holes), on(all(), of(1, 5, iv(0, 2)))), answer{both: true}},
		{"replicas divided", k(on(all(), one, two)), k(on(all(), two), on(all(), one)), answer{both: true}},
		{"Max in a hole", a, k(on(list(iv(1, 5)), of(1, 12, iv(10, 12)))), answer{both: true}},
		{"an entry by which nothing is known", a, k(on(list(iv(1, 5)), of(0, 5, iv(0, 5)), one)), answer{both: true}},
		{"all triples of a replica", k(on(all(), of(0, greatest))), k(on(list(iv(0, 7)), of(0, greatest)), on(list(iv(8, greatest)), of(0, greatest))), answer{both: true}},
		// One is a proper subset of the other one.
		{"an item less in front", a, k(on(list(iv(2, 5)), one)), answer{both: true, left: at(1, 1, 0)}},
		{"an item less behind", a, k(on(list(iv(1, 4)), one)), answer{both: true, left: at(5, 1, 0)}},
		{"an item less between", a, k(on(list(iv(1, 2), iv(4, 5)), one)), answer{both: true, left: at(3, 1, 0)}},
		{"a counter less", a, k(on(list(iv(1, 5)), of(1, 8))), answer{both: true, left: at(1, 1, 9)}},
		{"a counter less for one item", a, k(on(list(iv(1, 3), iv(5, 5)), one), on(list(iv(4, 4)), of(1, 9, iv(7, 7)))), answer{both: true, left: at(4, 1, 7)}},
		{"a hole", k(on(all(), one)), k(on(all(), holes)), answer{both: true, left: at(0, 1, 3)}},
		{"a replica less", k(on(all(), one, two)), k(on(all(), one)), answer{both: true, left: at(0, 2, 0)}},
		{"a replica less in front", k(on(all(), one, two)), k(on(all(), two)), answer{both: true, left: at(0, 1, 0)}},
		{"a fragment less", ascending(), ascending()[1:], answer{both: true, left: at(3, 1, 0)}},
		{"fragments that meet, one less", k(on(list(iv(1, 6)), one), on(list(iv(4, 9)), two)), k(on(list(iv(1, 6)), one), on(list(iv(6, 9)), two)), answer{both: true, left: at(4, 2, 0)}},
		{"together more than each", k(on(list(iv(1, 5)), of(1, 9, iv(0, 3))), on(list(iv(1, 5)), of(1, 3))), k(on(list(iv(1, 5)), of(1, 9, iv(0, 3)))), answer{both: true, left: at(1, 1, 0)}},
		{"together as much as the other one", k(on(list(iv(1, 5)), of(1, 9, iv(0, 3))), on(list(iv(1, 5)), of(1, 3))), k(on(list(iv(0, 5)), one)), answer{both: true, right: at(0, 1, 0)}},
		{"the greatest item", k(on(all(), one)), k(on(list(iv(0, greatest-1)), one)), answer{both: true, left: at(greatest, 1, 0)}},
		{"the least item", k(on(all(), one)), k(on(list(iv(1, greatest)), one)), answer{both: true, left: at(0, 1, 0)}},
		{"the greatest counter", k(on(all(), of(0, greatest))), k(on(all(), of(0, greatest-1))), answer{both: true, left: at(0, 0, greatest)}},
		{"the greatest numbers", k(on(all(), of(0, greatest), of(greatest, greatest))), k(on(all(), of(0, greatest)), on(list(iv(0, greatest-1)), of(greatest, greatest)), on(all(), of(greatest, greatest-1))), answer{both: true, left: at(greatest, greatest, greatest)}},
		// None is a subset of the other one, but they have something in common.
		{"items meet", a, k(on(list(iv(4, 9)), one)), answer{true, at(1, 1, 0), at(6, 1, 0)}},
		{"one item in common", a, k(on(list(iv(5, 9)), one)), answer{true, at(1, 1, 0), at(6, 1, 0)}},
		{"counters meet", k(on(all(), of(1, 5))), k(on(all(), of(1, 9, iv(0, 4)))), answer{true, at(0, 1, 0), at(0, 1, 6)}},
		{"one counter in common", k(on(list(iv(4, 4)), of(1, 5))), k(on(list(iv(4, 4)), of(1, 9, iv(0, 3), iv(5, 8)))), answer{true, at(4, 1, 0), at(4, 1, 9)}},
		{"fewer items, but more counters", a, k(on(list(iv(2, 5)), of(1, 10))), answer{true, at(1, 1, 0), at(2, 1, 10)}},
		{"another replica each", k(on(all(), of(1, 5), of(2, 5))), k(on(all(), of(2, 5), of(3, 5))), answer{true, at(0, 1, 0), at(0, 3, 0)}},
		{"one triple in common", k(on(list(iv(1, 4)), one)), k(on(list(iv(4, 5)), of(1, 9, iv(0, 8))), on(list(iv(6, 6)), one)), answer{true, at(1, 1, 0), at(5, 1, 9)}},
		{"the greatest triple in common", k(on(list(iv(greatest, greatest)), of(greatest, greatest))), k(on(list(iv(greatest-1, greatest)), of(greatest, greatest, iv(0, greatest-1)))), answer{true, at(greatest, greatest, 0), at(greatest-1, greatest, greatest)}},
		// Nothing is in common.
		{"other items", a, k(on(list(iv(6, 9)), one)), answer{left: at(1, 1, 0), right: at(6, 1, 0)}},
		{"items apart that alternate", k(on(list(iv(1, 1), iv(3, 3)), one)), k(on(list(iv(2, 2), iv(4, 4)), one)), answer{left: at(1, 1, 0), right: at(2, 1, 0)}},
		{"other replicas", a, k(on(list(iv(1, 5)), two)), answer{left: at(1, 1, 0), right: at(1, 2, 0)}},
		{"other counters", k(on(all(), holes)), k(on(all(), of(1, 5, iv(0, 2)))), answer{left: at(0, 1, 0), right: at(0, 1, 3)}},
		{"the greatest counter alone", k(on(all(), of(1, greatest-1))), k(on(all(), of(1, greatest, iv(0, greatest-1)))), answer{left: at(0, 1, 0), right: at(0, 1, greatest)}},
		{"the same versions, but not for the same items", k(on(list(iv(1, 1)), one), on(list(iv(2, 2)), two)), k(on(list(iv(1, 1)), two), on(list(iv(2, 2)), one)), answer{left: at(1, 1, 0), right: at(1, 2, 0)}},
		{"the rest of all", k(on(list(iv(0, 7)), of(5, greatest)), on(list(iv(8, greatest)), of(5, 3))), k(on(list(iv(8, greatest)), of(5, greatest, iv(0, 3)))), answer{left: at(0, 5, 0), right: at(8, 5, 4)}},
	}
}

func TestRelationsOfTheChapter(t *testing.T) {
	if got, want := []int{order.Equal, order.Less, order.Greater, order.Neither}, []int{0, 1, 2, 3}; !slices.Equal(got, want) {
		t.Errorf("the relations are %v, want %v", got, want)
	}
}

func TestExampleOfTheChapter(t *testing.T) {
	checkLeast(t, k(on(list(iv(4, 5)), of(1, 5, iv(0, 2)))), at(4, 1, 3))
}

func TestP15_1Edges(t *testing.T) {
	for _, c := range edges() {
		t.Run(c.name, func(t *testing.T) {
			checkRelations(t, c.a, c.b, c.want)
			checkRelations(t, c.b, c.a, c.want.turned())
			checkRelations(t, far(c.a), far(c.b), answerOf(far(c.a), far(c.b)))
			for _, x := range []api.Knowledge{c.a, c.b} {
				checkRelations(t, x, x, answer{both: c.want.both || len(answerOf(x, nil).left) > 0})
			}
		})
	}
}

// Each relation by its name, in both orders.
func TestP15_1Names(t *testing.T) {
	less, more, other := k(on(list(iv(1, 4)), of(1, 3))), k(on(list(iv(1, 5)), of(1, 3))), k(on(list(iv(1, 4)), of(1, 2)), on(list(iv(9, 9)), of(1, 0)))
	for _, c := range []struct {
		a, b api.Knowledge
		want int
	}{
		{less, less, order.Equal}, {nil, nil, order.Equal}, {less, more, order.Less}, {nil, less, order.Less}, {more, less, order.Greater}, {less, nil, order.Greater},
		{less, other, order.Neither}, {other, less, order.Neither}, {more, other, order.Neither}, {other, more, order.Neither},
	} {
		if got, err := order.Relate(c.a, c.b); got != c.want || err != nil {
			t.Errorf("Relate(%v, %v) = %d, %v, want %d", c.a, c.b, got, err, c.want)
		}
	}
}

func TestP15_1AllKnowledge(t *testing.T) {
	for pair, want := range pools() {
		checkRelations(t, pair[0], pair[1], want)
		checkRelations(t, pair[1], pair[0], want.turned())
	}
}

func TestP15_1TripleByTriple(t *testing.T) {
	for a, b := range randomPairs(151, 60) {
		want := answerOf(a, b)
		checkRelations(t, a, b, want)
		checkRelations(t, b, a, want.turned())
	}
}

// Knowledge of which a single triple is taken away.
func TestP15_1OneTriple(t *testing.T) {
	random := rand.New(rand.NewSource(152))
	for range 60 {
		a := randomKnowledge(random, 3)
		var known []order.Triple
		for x := range probes(a) {
			if knows(a, x) {
				known = append(known, x)
			}
		}
		if len(known) == 0 {
			continue
		}
		x := known[random.Intn(len(known))]
		single, err := know.Insert(nil, x.Item, x.Replica, x.Counter)
		if err != nil {
			t.Fatal(err)
		}
		rest, err := know.Minus(a, single)
		if err != nil {
			t.Fatal(err)
		}
		checkRelations(t, a, rest, answer{both: len(rest) > 0, left: maybe{x}})
		checkRelations(t, rest, a, answer{both: len(rest) > 0, right: maybe{x}})
		checkRelations(t, single, rest, answer{left: maybe{x}, right: answerOf(rest, nil).left})
		checkWitness(t, a, rest, maybe{x})
		checkLeast(t, single, maybe{x})
	}
}

// chain returns canonical knowledge with many fragments.
func chain(count, replica uint64) api.Knowledge {
	var k api.Knowledge
	for i := range count {
		k = append(k, on(list(iv(4*i, 4*i+1), iv(4*(count+i), 4*(count+i)+1)), of(replica, i)))
	}
	return k
}

// longEdges returns knowledge with many fragments.
func longEdges() []edge {
	const count = 10000
	a, b := chain(count, 1), chain(count, 2)
	less, more, other := clone(a), clone(a), clone(a)
	less[count-2].Vector[0].Holes = list(iv(7, 7))
	more[count-1].Vector[0].Max++
	slices.Reverse(more)
	other[count-2], other[count-1] = less[count-2], more[0]
	both := append(clone(a), clone(b)...)
	item := uint64(4 * (count - 2))
	return []edge{
		{"the same", a, clone(a), answer{both: true}},
		{"one hole", a, less, answer{both: true, left: at(item, 1, 7)}},
		{"one more", a, more, answer{both: true, right: at(4*(count-1), 1, count)}},
		{"one hole, and one more", a, other, answer{true, at(item, 1, 7), at(4*(count-1), 1, count)}},
		{"other replicas", a, b, answer{left: at(0, 1, 0), right: at(0, 2, 0)}},
		{"fragments that meet", both, a, answer{both: true, left: at(0, 2, 0)}},
	}
}

// Many fragments take no quadratic time.
func TestP15_1LongKnowledge(t *testing.T) {
	for _, c := range longEdges() {
		subset, err1 := order.Subset(c.a, c.b)
		disjoint, err2 := order.Disjoint(c.a, c.b)
		relation, err3 := order.Relate(c.a, c.b)
		if subset != c.want.subset() || disjoint == c.want.both || relation != c.want.relation() || err1 != nil || err2 != nil || err3 != nil {
			t.Errorf("%s: %t, %v, %t, %v, %d, %v", c.name, subset, err1, disjoint, err2, relation, err3)
		}
	}
}

func TestP15_2LeastEdges(t *testing.T) {
	one, two := of(1, 9), of(2, 6)
	for _, c := range []struct {
		name string
		k    api.Knowledge
		want maybe
	}{
		{"nothing", nil, nil},
		{"nothing, not nil", api.Knowledge{}, nil},
		{"an empty fragment", api.Knowledge{{}}, nil},
		{"items alone", k(on(all())), nil},
		{"versions alone", k(on(nil, one, two)), nil},
		{"items and versions of other fragments", k(on(all()), on(nil, one)), nil},
		{"nothing known by an entry", k(on(all(), of(3, 4, iv(0, 4)))), nil},
		{"nothing known of any counter", k(on(all(), of(greatest, greatest, iv(0, greatest)))), nil},
		{"all triples of the replica 0", k(on(all(), of(0, greatest))), at(0, 0, 0)},
		{"the triple of zeros", k(on(list(iv(0, 0)), of(0, 0))), at(0, 0, 0)},
		{"the greatest triple", k(on(list(iv(greatest, greatest)), of(greatest, greatest, iv(0, greatest-1)))), at(greatest, greatest, greatest)},
		{"the first of some items", k(on(list(iv(4, 7), iv(9, 9)), one)), at(4, 1, 0)},
		{"the first of some replicas", k(on(list(iv(4, 4)), one, two)), at(4, 1, 0)},
		{"behind a hole", k(on(list(iv(4, 4)), of(1, 9, iv(0, 2), iv(4, 6)))), at(4, 1, 3)},
		{"behind a hole up to Max - 1", k(on(list(iv(4, 4)), of(1, 9, iv(0, 8)))), at(4, 1, 9)},
		{"in front of a hole", k(on(list(iv(4, 4)), of(1, 9, iv(1, 9)))), at(4, 1, 0)},
		{"behind an entry by which nothing is known", k(on(list(iv(4, 4)), of(0, 9, iv(0, 9)), of(1, 9, iv(0, 9)), of(2, 9, iv(0, 5)))), at(4, 2, 6)},
		{"the item, not the replica", k(on(list(iv(5, 5)), of(1, 0)), on(list(iv(4, 4)), of(7, 9, iv(0, 8)))), at(4, 7, 9)},
		{"the item, not the counter", k(on(list(iv(5, 5)), of(1, 0)), on(list(iv(4, 4)), of(1, 9, iv(0, 8)))), at(4, 1, 9)},
		{"the item, in the first fragment", k(on(list(iv(4, 4)), of(7, 9, iv(0, 8))), on(list(iv(5, 5)), of(1, 0))), at(4, 7, 9)},
		{"the replica, not the counter", k(on(list(iv(4, 4)), of(2, 0)), on(list(iv(4, 4)), of(1, 9, iv(0, 8)))), at(4, 1, 9)},
		{"the replica, in the first fragment", k(on(list(iv(4, 4)), of(1, 9, iv(0, 8))), on(list(iv(4, 4)), of(2, 0))), at(4, 1, 9)},
		{"the replica, in one fragment", k(on(list(iv(4, 4)), of(1, 9, iv(0, 8)), of(2, 0))), at(4, 1, 9)},
		{"the counter", k(on(list(iv(4, 4)), of(1, 9, iv(0, 8))), on(list(iv(4, 9)), of(1, 5, iv(0, 1))), on(list(iv(4, 5)), of(1, 9, iv(0, 6)))), at(4, 1, 2)},
		{"the least items are of a fragment without versions", k(on(list(iv(0, 1))), on(list(iv(0, 2)), of(1, 4, iv(0, 4))), on(list(iv(7, 8)), one)), at(7, 1, 0)},
		{"the least replica is of a fragment without items", k(on(nil, of(0, 5)), on(list(iv(7, 8)), one)), at(7, 1, 0)},
		{"the least replica is of a later item", k(on(list(iv(3, 4)), two), on(list(iv(4, 9)), one)), at(3, 2, 0)},
		{"fragments that meet in the least item", k(on(list(iv(3, 4)), two), on(list(iv(3, 9)), one), on(list(iv(0, 9)), of(3, 4, iv(0, 4)))), at(3, 1, 0)},
		{"canonical, the least item in a later fragment", ascending(), at(0, 1, 0)},
		{"canonical, the least item in the last fragment", k(on(list(iv(9, 9)), of(1, 5)), on(list(iv(3, 4)), of(2, 5, iv(0, 0)))), at(3, 2, 1)},
		{"the greatest items", k(on(list(iv(greatest-1, greatest)), one), on(list(iv(greatest, greatest)), of(0, 0))), at(greatest-1, 1, 0)},
		{"the greatest replicas", k(on(all(), of(greatest, 0)), on(all(), of(greatest-1, greatest, iv(0, greatest-1)))), at(0, greatest-1, greatest)},
	} {
		t.Run(c.name, func(t *testing.T) {
			checkLeast(t, c.k, c.want)
			checkLeast(t, canon.Canon(c.k), c.want)
			checkWitness(t, c.k, nil, c.want)
			checkWitness(t, c.k, c.k, nil)
			checkWitness(t, nil, c.k, nil)
		})
	}
}

func TestP15_2WitnessEdges(t *testing.T) {
	for _, c := range edges() {
		t.Run(c.name, func(t *testing.T) {
			checkTriples(t, c.a, c.b, c.want)
			checkTriples(t, far(c.a), far(c.b), answerOf(far(c.a), far(c.b)))
			checkTriples(t, c.a, c.a, answer{})
		})
	}
}

// All pairs of knowledge of some spaces, and each one alone.
func TestP15_2AllKnowledge(t *testing.T) {
	for pair, want := range pools() {
		checkTriples(t, pair[0], pair[1], want)
	}
	for _, c := range []struct {
		space
		most int
	}{
		{space{bottom(2), []uint64{3}, bottom(1)}, 2},
		{space{bottom(1), []uint64{0, 2}, bottom(1)}, 1},
		{space{bottom(0), []uint64{0, greatest}, bottom(0)}, 2},
		{space{top(2), []uint64{greatest}, top(2)}, 1},
		{space{ends(), []uint64{0}, bottom(0)}, 2},
	} {
		triples := c.triples()
		for _, k := range c.knowledge(c.most) {
			var want maybe
			if i := slices.Index(c.row(k), true); i >= 0 {
				want = triples[i : i+1]
			}
			checkLeast(t, k, want)
		}
	}
}

func TestP15_2TripleByTriple(t *testing.T) {
	for a, b := range randomPairs(153, 60) {
		checkTriples(t, a, b, answerOf(a, b))
		checkLeast(t, a, answerOf(a, nil).left)
		checkLeast(t, b, answerOf(b, nil).left)
	}
}

// The triples of knowledge in their order: the least one is taken away again and again.
func TestP15_2AllTriples(t *testing.T) {
	a := k(on(list(iv(7, 8), iv(greatest, greatest)), of(2, 1), of(3, 2, iv(1, 1))), on(list(iv(5, 7)), of(2, 3, iv(0, 1))), on(list(iv(8, 9)), of(0, 4, iv(0, 3)), of(1, 3, iv(0, 3))))
	var want []order.Triple
	for x := range probes(a) {
		if knows(a, x) {
			want = append(want, x)
		}
	}
	rest := a
	for _, x := range want {
		checkLeast(t, rest, maybe{x})
		single, err := know.Insert(nil, x.Item, x.Replica, x.Counter)
		if err != nil {
			t.Fatal(err)
		}
		taken, err := know.Minus(a, rest)
		if err != nil {
			t.Fatal(err)
		}
		checkWitness(t, a, taken, maybe{x})
		if rest, err = know.Minus(rest, single); err != nil {
			t.Fatal(err)
		}
	}
	checkLeast(t, rest, nil)
}

func TestP15_2LongKnowledge(t *testing.T) {
	for _, c := range longEdges() {
		if got, ok, err := order.Witness(c.a, c.b); !c.want.left.is(got, ok, err) {
			t.Errorf("%s: Witness = %v, %t, %v, want %v", c.name, got, ok, err, c.want.left)
		}
		if got, ok, err := order.Witness(c.b, c.a); !c.want.right.is(got, ok, err) {
			t.Errorf("%s: Witness, turned = %v, %t, %v, want %v", c.name, got, ok, err, c.want.right)
		}
	}
}

// The least triple of many fragments that meet is found without their canonical form, which has some 10^10 entries.
func TestP15_2ManyFragmentsThatMeet(t *testing.T) {
	const count = 100000
	var nested api.Knowledge
	for i := range uint64(count) {
		nested = append(nested, on(list(iv(count-i, count+i)), of(count+i, i, iv(0, i))), on(list(iv(count-i, count+i)), of(2*count-i, i+3, iv(0, i))))
	}
	if got, ok, err := order.Least(nested); !at(1, count+1, count).is(got, ok, err) {
		t.Errorf("Least = %v, %t, %v", got, ok, err)
	}
}

func TestP15_3Edges(t *testing.T) {
	for _, c := range edges() {
		t.Run(c.name, func(t *testing.T) {
			checkConsequences(t, c.a, c.b)
			checkConsequences(t, c.b, c.a)
			checkConsequences(t, far(c.a), far(c.b))
			for _, x := range []api.Knowledge{c.a, c.b} {
				checkConsequences(t, x, canon.Canon(x))
				checkConsequences(t, canon.Canon(x), x)
			}
		})
	}
}

func TestP15_3AllKnowledge(t *testing.T) {
	for pair := range pools() {
		checkConsequences(t, pair[0], pair[1])
	}
}

func TestP15_3Random(t *testing.T) {
	for a, b := range randomPairs(154, 60) {
		checkConsequences(t, a, b)
		checkConsequences(t, b, a)
		if relation, err := order.Relate(a, canon.Canon(a)); relation != order.Equal || err != nil {
			t.Errorf("the relation of %v and its canonical form is %d, %v", a, relation, err)
		}
	}
}

// A witness is known by the first one alone, and inserting it into the second one again and again makes the first one a subset.
func TestP15_3Witnesses(t *testing.T) {
	random := rand.New(rand.NewSource(155))
	for range 20 {
		a := k(on(randomRanges(random, 0, 2), of(1, uint64(random.Intn(3))), of(2, 4, iv(1, 3))), on(randomRanges(random, 3, 1), of(1, 4, iv(0, 1))))
		b := k(on(randomRanges(random, 0, 2), of(1, 1), of(3, 2)))
		for {
			x, ok, err := order.Witness(a, b)
			if err != nil {
				t.Fatal(err)
			}
			if subset, err := order.Subset(a, b); subset == ok || err != nil {
				t.Fatalf("%v and %v: Subset is %t, %v, but a witness is found: %t", a, b, subset, err, ok)
			}
			if !ok {
				break
			}
			if !knows(a, x) || knows(b, x) {
				t.Fatalf("%v is no witness of %v and %v", x, a, b)
			}
			if b, err = know.Insert(b, x.Item, x.Replica, x.Counter); err != nil {
				t.Fatal(err)
			}
		}
	}
}

// wrongLists are lists that are not correct, with several errors of which one counts.
func wrongLists() []api.Ranges {
	return []api.Ranges{
		list(iv(2, 1)), list(iv(greatest, 0)), list(iv(1, 1), iv(4, 3)), list(iv(1, 1), iv(2, 2)), list(iv(1, 4), iv(4, 6)), list(iv(5, 6), iv(1, 2)),
		list(iv(0, greatest), iv(0, 0)), list(iv(1, 2), iv(4, 5), iv(6, 5)), list(iv(1, 2), iv(3, 2), iv(1, 0)), list(iv(1, 2), iv(4, 5), iv(7, 7), iv(5, 5), iv(9, 8)),
	}
}

// wrongs returns knowledge that is not correct.
func wrongs() []api.Knowledge {
	good := on(list(iv(1, 2), iv(4, 5)), of(1, 9, iv(3, 4)), of(2, 2))
	var fragments []api.Fragment
	for _, l := range wrongLists() {
		fragments = append(fragments, on(l), on(l, of(1, 2)), on(nil, of(1, greatest, l...)), on(list(iv(3, 3)), of(1, 2), of(2, greatest, l...)), on(l, of(1, 3, l...)))
	}
	fragments = append(fragments,
		on(nil, of(1, 5, iv(6, 6))), on(list(iv(3, 3)), of(1, 5, iv(4, 6))), on(list(iv(3, 3)), of(1, 5), of(2, 0, iv(0, 1))), on(nil, of(1, greatest-1, iv(greatest, greatest))),
		on(list(iv(3, 3)), of(1, 5), of(1, 5)), on(nil, of(2, 5), of(1, 5)), on(list(iv(3, 3)), of(1, 5), of(greatest, 5), of(0, 5)),
		on(list(iv(3, 2)), of(1, 5), of(1, 5)), on(list(iv(3, 3), iv(4, 4)), of(1, 5, iv(6, 6))),
	)
	var all []api.Knowledge
	for i, f := range fragments {
		all = append(all, k(f), k(good, f), k(f, good), k(api.Fragment{}, good, f, fragments[(i+7)%len(fragments)], good))
	}
	return all
}

// checkWrong checks that an error is that of a check, behind a name.
func checkWrong(t *testing.T, call, name string, err, want error) {
	t.Helper()
	if err == nil || want == nil {
		t.Fatalf("%s: the error is %v, and that of the check is %v", call, err, want)
	}
	if err.Error() != name+": "+want.Error() {
		t.Errorf("%s: %q, want %q", call, err.Error(), name+": "+want.Error())
	}
	code, at := fault.Code(want), fault.At(want)
	if fault.Code(err) != code || fault.At(err) != at {
		t.Errorf("%s: the code %d at %d, want %d at %d", call, fault.Code(err), fault.At(err), code, at)
	}
	var f api.Fault
	if !errors.Is(err, code) || !errors.As(err, &f) || f.Code != code || f.At != at {
		t.Errorf("%s: errors.Is and errors.As do not find %v at %d in %v", call, code, at, err)
	}
}

// call is a call of a function. It reports whether all results but the error are zero.
type call struct {
	name string
	run  func(a, b api.Knowledge) (zero bool, err error)
}

// calls returns calls of all functions with two arguments.
func calls() []call {
	return []call{
		{"Subset", func(a, b api.Knowledge) (bool, error) {
			got, err := order.Subset(a, b)
			return !got, err
		}},
		{"Disjoint", func(a, b api.Knowledge) (bool, error) {
			got, err := order.Disjoint(a, b)
			return !got, err
		}},
		{"Relate", func(a, b api.Knowledge) (bool, error) {
			got, err := order.Relate(a, b)
			return got == 0, err
		}},
		{"Witness", func(a, b api.Knowledge) (bool, error) {
			got, ok, err := order.Witness(a, b)
			return got == order.Triple{} && !ok, err
		}},
	}
}

// checkErrors checks the error of a call with wrong knowledge in each place, and another one in the other place.
func checkErrors(t *testing.T, c call, wrong, other api.Knowledge) {
	t.Helper()
	for place, run := range map[string]func() (bool, error){
		"left":  func() (bool, error) { return c.run(wrong, other) },
		"right": func() (bool, error) { return c.run(other, wrong) },
	} {
		zero, err := run()
		if !zero {
			t.Errorf("%s of the wrong %v as %s has a result", c.name, wrong, place)
		}
		checkWrong(t, c.name, place, err, scope.Check(wrong))
	}
}

// Each place with each wrong argument; also nothing as the other one, by which much is a subset, disjoint, or less.
func TestP15_1Errors(t *testing.T) {
	for _, wrong := range wrongs() {
		for _, c := range calls() {
			for _, other := range []api.Knowledge{nil, ascending(), k(on(all(), of(1, greatest))), k(on(all(), of(1, 3, iv(0, 3))))} {
				checkErrors(t, c, wrong, other)
			}
		}
	}
	for _, right := range []api.Knowledge{nil, {}, {{}}, ascending(), k(on(nil, of(1, 3, iv(0, 3))), on(all())), k(on(all(), of(0, greatest)))} {
		for _, c := range calls() {
			if _, err := c.run(right, ascending()); err != nil {
				t.Errorf("%s of the correct %v: %v", c.name, right, err)
			}
			if _, err := c.run(ascending(), right); err != nil {
				t.Errorf("%s with the correct %v: %v", c.name, right, err)
			}
		}
	}
}

// If both are wrong, the first one is reported, whatever is wrong with it.
func TestP15_1BothWrong(t *testing.T) {
	for _, c := range calls() {
		for i, a := range wrongs() {
			for j, b := range wrongs() {
				if (i+j)%5 != 0 {
					continue
				}
				zero, err := c.run(a, b)
				if !zero {
					t.Errorf("%s of the wrong %v and %v has a result", c.name, a, b)
				}
				checkWrong(t, c.name, "left", err, scope.Check(a))
			}
		}
	}
}

// Each code of the check, with its text and its offset.
func TestP15_1Texts(t *testing.T) {
	good := ascending()
	for _, c := range []struct {
		f    api.Fragment
		code api.Errno
		text string
	}{
		{on(list(iv(2, 1))), api.ErrInverted, ": error 2"},
		{on(list(iv(1, 1), iv(2, 2))), api.ErrOrder, ": error 3"},
		{on(nil, of(1, 5), of(1, 5)), api.ErrOrder, ": error 3"},
		{on(nil, of(1, 5, iv(5, 6))), api.ErrHole, ": error 4"},
		{on(list(iv(2, 1)), of(1, 5, iv(5, 6))), api.ErrInverted, ": error 2"},
	} {
		for at := range len(good) + 1 {
			wrong := slices.Insert(slices.Clone(good), at, c.f)
			check := func(name, place string, zero bool, err error) {
				t.Helper()
				if !zero || err == nil || err.Error() != place+c.text || fault.Code(err) != c.code || fault.At(err) != at {
					t.Errorf("%s of %v as %s: %t, %v at %d, want %s at %d", name, wrong, place, zero, err, fault.At(err), place+c.text, at)
				}
			}
			for _, call := range calls() {
				zero, err := call.run(wrong, good)
				check(call.name, "left", zero, err)
				zero, err = call.run(good, wrong)
				check(call.name, "right", zero, err)
			}
			got, ok, err := order.Least(wrong)
			check("Least", "left", got == order.Triple{} && !ok, err)
		}
	}
}

func TestP15_2LeastErrors(t *testing.T) {
	for _, wrong := range wrongs() {
		got, ok, err := order.Least(wrong)
		if ok || got != (order.Triple{}) {
			t.Errorf("Least of the wrong %v = %v, %t", wrong, got, ok)
		}
		checkWrong(t, "Least", "left", err, scope.Check(wrong))
	}
}

// P1: no argument makes a function panic or run on; there is an error exactly if an argument is wrong.
func TestP1AllArguments(t *testing.T) {
	pool := []api.Knowledge{
		nil, {}, {{}}, ascending(), k(on(all(), of(0, greatest))), k(on(all(), of(greatest, greatest, iv(0, greatest)))), k(on(all()), on(all()), on(nil, of(1, 2))),
	}
	pool = append(pool, wrongs()[:40]...)
	var many api.Knowledge
	for x := range uint64(200) {
		many = append(many, on(list(iv(x, x), iv(x, x), iv(x+1, 0)), of(5, x, iv(x, x), iv(x, x), iv(x+1, 0)), of(greatest-x, 9)))
	}
	pool = append(pool, many)
	for _, a := range pool {
		for _, b := range pool {
			wrong := scope.Check(a) != nil || scope.Check(b) != nil
			for _, c := range calls() {
				if zero, err := c.run(a, b); (err != nil) != wrong || wrong && !zero {
					t.Errorf("%s(%v, %v): %t, %v", c.name, a, b, zero, err)
				}
			}
		}
		if got, ok, err := order.Least(a); (err != nil) != (scope.Check(a) != nil) || !ok && got != (order.Triple{}) || err != nil && ok {
			t.Errorf("Least(%v) = %v, %t, %v", a, got, ok, err)
		}
	}
}

// sample returns knowledge with several fragments, intervals, entries and holes, whose parts share memory.
func sample() api.Knowledge {
	holes := list(iv(1, 1), iv(3, 4), iv(6, 6))
	v := api.Vector{of(1, 9, holes...), of(4, 12, holes[1:]...), of(6, 5, holes[:2]...), of(7, 8, holes...)}
	items := list(iv(1, 3), iv(5, 8), iv(10, 10), iv(20, 29), iv(40, greatest))
	return k(on(items[1:2], v[:1]...), on(items[3:], v[1:2]...), on(items[:1], v[:2]...), on(items[2:3], v...))
}

// crossing returns knowledge with items of the sample in several fragments.
func crossing() api.Knowledge {
	holes := list(iv(0, 2), iv(5, 7))
	v := api.Vector{of(1, 12, holes...), of(5, 9, holes...)}
	return k(on(list(iv(2, 6), iv(28, 44)), v...), on(list(iv(0, 60)), v[1:]...), on(list(iv(60, 70)), v[:1]...), on(nil, v...), on(list(iv(6, 6))))
}

// Rule 4: no argument is changed, and nothing behind its end is read or changed.
func TestArgumentsStay(t *testing.T) {
	a, b := sample(), crossing()
	for i := range len(a) + 1 {
		for j := range len(b) + 1 {
			x, y := a[:i], b[:j]
			want := answerOf(clone(sample()[:i]), clone(crossing()[:j]))
			checkRelations(t, x, y, want)
			checkTriples(t, x, y, want)
			checkLeast(t, x, answerOf(clone(sample()[:i]), nil).left)
			if !same(a, sample()) || !same(b, crossing()) {
				t.Fatalf("the arguments are %v and %v", a, b)
			}
		}
	}
	for i, wrong := range wrongs() {
		for _, c := range calls() {
			c.run(wrong, b)
			c.run(b, wrong)
		}
		order.Least(wrong)
		if !same(wrong, wrongs()[i]) || !same(b, crossing()) {
			t.Fatalf("%v is %v", wrongs()[i], wrong)
		}
	}
}

// P2 and rule 7: a call depends on its arguments alone, also after they have changed, and after calls that failed.
func TestP2Independent(t *testing.T) {
	a, b := clone(sample()), clone(crossing())
	for _, c := range []struct {
		change func()
		left   maybe
		least  maybe
	}{
		{func() {}, at(1, 1, 0), at(1, 1, 0)},
		{func() { a[2].Items[0].Lo = 0 }, at(0, 1, 0), at(0, 1, 0)},
		{func() { a[2].Vector[0].Holes = list(iv(0, 1)) }, at(0, 1, 2), at(0, 1, 2)},
		{func() { b[1].Vector[0] = of(1, 12) }, at(0, 4, 0), at(0, 1, 2)},
		{func() { b[1].Vector = append(b[1].Vector, of(4, 20)) }, at(10, 6, 0), at(0, 1, 2)},
		{func() { a[3].Items[0] = iv(11, 10) }, nil, nil},
		{func() { a[3].Items[0] = iv(10, 11) }, at(10, 6, 0), at(0, 1, 2)},
		{func() { a = a[:3] }, at(61, 4, 0), at(0, 1, 2)},
	} {
		c.change()
		for range 3 {
			if wrong := scope.Check(a); wrong != nil {
				_, _, err := order.Witness(a, b)
				checkWrong(t, "Witness", "left", err, wrong)
				_, _, err = order.Least(a)
				checkWrong(t, "Least", "left", err, wrong)
				continue
			}
			checkWitness(t, a, b, c.left)
			checkLeast(t, a, c.least)
			checkRelations(t, a, b, answerOf(a, b))
		}
	}
}

// Rule 6: the functions may be called concurrently, also with the same arguments.
func TestConcurrent(t *testing.T) {
	a, b, wrong := sample(), crossing(), k(on(list(iv(2, 1))))
	want := answerOf(a, b)
	least := answerOf(a, nil).left
	var wait sync.WaitGroup
	for range 8 {
		wait.Go(func() {
			checkRelations(t, a, b, want)
			checkWitness(t, a, b, want.left)
			checkLeast(t, a, least)
			if got, err := order.Relate(a, wrong); got != 0 || err == nil || err.Error() != "right: error 2" {
				t.Errorf("Relate = %d, %v", got, err)
			}
		})
	}
	wait.Wait()
	if !same(a, sample()) || !same(b, crossing()) {
		t.Errorf("the arguments are %v and %v", a, b)
	}
}
