package scope_test

import (
	"iter"
	"math"
	"math/bits"
	"math/rand"
	"slices"
	"sync"
	"testing"

	"kenning/api"
	"kenning/fault"
	"kenning/ranges"
	"kenning/scope"
	"kenning/vector"
)

const greatest = math.MaxUint64

func iv(lo, hi uint64) api.Interval { return api.Interval{Lo: lo, Hi: hi} }

// list returns a list of intervals.
func list(l ...api.Interval) api.Ranges { return l }

// of returns an entry.
func of(replica, last uint64, holes ...api.Interval) api.Entry {
	return api.Entry{Replica: replica, Max: last, Holes: holes}
}

// on returns a fragment.
func on(items api.Ranges, entries ...api.Entry) api.Fragment {
	return api.Fragment{Items: items, Vector: entries}
}

// cloneVector returns a copy of a vector.
func cloneVector(v api.Vector) api.Vector {
	var l api.Vector
	for _, e := range v {
		l = append(l, of(e.Replica, e.Max, slices.Clone(e.Holes)...))
	}
	return l
}

// clone returns a copy of knowledge.
func clone(k api.Knowledge) api.Knowledge {
	var l api.Knowledge
	for _, f := range k {
		l = append(l, on(slices.Clone(f.Items), cloneVector(f.Vector)...))
	}
	return l
}

// sameVector compares two vectors field by field.
func sameVector(a, b api.Vector) bool {
	return slices.EqualFunc(a, b, func(e, f api.Entry) bool {
		return e.Replica == f.Replica && e.Max == f.Max && slices.Equal(e.Holes, f.Holes)
	})
}

// same compares knowledge field by field.
func same(a, b api.Knowledge) bool {
	return slices.EqualFunc(a, b, func(f, g api.Fragment) bool {
		return slices.Equal(f.Items, g.Items) && sameVector(f.Vector, g.Vector)
	})
}

// contains reports whether a number is in one of some intervals.
func contains(l api.Ranges, x uint64) bool {
	return slices.ContainsFunc(l, func(s api.Interval) bool { return s.Lo <= x && x <= s.Hi })
}

// knows reports whether a version is known for an item, as the document says it.
func knows(k api.Knowledge, item, replica, counter uint64) bool {
	return slices.ContainsFunc(k, func(f api.Fragment) bool {
		return contains(f.Items, item) && slices.ContainsFunc(f.Vector, func(e api.Entry) bool {
			return e.Replica == replica && counter <= e.Max && !contains(e.Holes, counter)
		})
	})
}

// members returns the indices of the fragments with an item, as the document says it.
func members(k api.Knowledge, item uint64) []int {
	var l []int
	for i, f := range k {
		if contains(f.Items, item) {
			l = append(l, i)
		}
	}
	return l
}

// wrongList returns the code of what is wrong with a list, as the document says it.
func wrongList(l api.Ranges) api.Errno {
	for i, s := range l {
		if s.Lo > s.Hi {
			return api.ErrInverted
		}
		// Hi may be the greatest number, so a difference tells whether there is a number between them.
		if i > 0 && (s.Lo <= l[i-1].Hi || s.Lo-l[i-1].Hi < 2) {
			return api.ErrOrder
		}
	}
	return api.OK
}

// wrongVector returns the code of what is wrong with a vector, as the document says it.
func wrongVector(v api.Vector) api.Errno {
	for i, e := range v {
		if code := wrongList(e.Holes); code != api.OK {
			return code
		}
		if slices.ContainsFunc(e.Holes, func(hole api.Interval) bool { return hole.Hi > e.Max }) {
			return api.ErrHole
		}
		if i > 0 && e.Replica <= v[i-1].Replica {
			return api.ErrOrder
		}
	}
	return api.OK
}

// model returns what is wrong with knowledge, as the document says it.
func model(k api.Knowledge) api.Fault {
	for i, f := range k {
		for _, code := range []api.Errno{wrongList(f.Items), wrongVector(f.Vector)} {
			if code != api.OK {
				return api.Fault{Code: code, At: i}
			}
		}
	}
	return api.Fault{}
}

// tuples yields all lists of a length whose elements are of a pool.
func tuples[T any](pool []T, length int) iter.Seq[[]T] {
	total := 1
	for range length {
		total *= len(pool)
	}
	return func(yield func([]T) bool) {
		for number := range total {
			l := make([]T, length)
			for i := range l {
				l[i] = pool[number%len(pool)]
				number /= len(pool)
			}
			if !yield(l) {
				return
			}
		}
	}
}

// line is some cells in ascending order from 0 on, each one directly behind the one before it. A set of cells is a number with a bit for each.
type line []api.Interval

// small returns the line of the numbers up to one less than count.
func small(count uint64) line {
	var l line
	for x := range count {
		l = append(l, iv(x, x))
	}
	return l
}

// whole returns a line of all numbers: the least one, the greatest one, and all between them.
func whole() line { return line{iv(0, 0), iv(1, greatest-1), iv(greatest, greatest)} }

// list returns the list of a set: one interval for each run of cells.
func (l line) list(set uint) api.Ranges {
	var r api.Ranges
	for i, cell := range l {
		switch {
		case set>>i&1 == 0:
		case i > 0 && set>>(i-1)&1 == 1:
			r[len(r)-1].Hi = cell.Hi
		default:
			r = append(r, cell)
		}
	}
	return r
}

// up returns the set of the cells up to one.
func up(cell int) uint { return 1<<(cell+1) - 1 }

// space is some replicas in ascending order, and the cells of items and of counters.
type space struct {
	items    line
	replicas []uint64
	counters line
}

// part is a correct fragment of a space, with the set of its items, and the set of the counters that are known of each replica.
type part struct {
	api.Fragment
	items uint
	known []uint
}

// vectors returns parts without items: with all correct vectors of a space, also those whose Max is in a hole.
func (s space) vectors() []part {
	all := []part{{}}
	for _, replica := range s.replicas {
		var longer []part
		for _, p := range all {
			longer = append(longer, part{p.Fragment, 0, append(slices.Clip(p.known), 0)})
			for last, cell := range s.counters {
				for holes := range up(last) + 1 {
					e := of(replica, cell.Hi, s.counters.list(holes)...)
					f := on(nil, append(slices.Clip(p.Vector), e)...)
					longer = append(longer, part{f, 0, append(slices.Clip(p.known), up(last)&^holes)})
				}
			}
		}
		all = longer
	}
	return all
}

// parts returns all correct fragments of a space.
func (s space) parts() []part {
	var all []part
	for set := range uint(1) << len(s.items) {
		for _, p := range s.vectors() {
			all = append(all, part{on(s.items.list(set), p.Vector...), set, p.known})
		}
	}
	return all
}

// canonical returns the canonical vector by which a set of counters of each replica is known.
func (s space) canonical(known []uint) api.Vector {
	var v api.Vector
	for i, set := range known {
		if set != 0 {
			last := bits.Len(set) - 1
			v = append(v, of(s.replicas[i], s.counters[last].Hi, s.counters.list(up(last)&^set)...))
		}
	}
	return v
}

// union returns the items of all parts, and the counters of each replica that are known for a cell of items.
func (s space) union(parts []part, cell int) (items uint, known []uint) {
	known = make([]uint, len(s.replicas))
	for _, p := range parts {
		items |= p.items
		if p.items>>cell&1 == 0 {
			continue
		}
		for i, set := range p.known {
			known[i] |= set
		}
	}
	return items, known
}

// knowledge returns the fragments of parts.
func knowledge(parts []part) api.Knowledge {
	var k api.Knowledge
	for _, p := range parts {
		k = append(k, p.Fragment)
	}
	return k
}

// trial is all knowledge of a space with a number of fragments.
type trial struct {
	space
	parts []part
	count int
}

// trials are those of which all knowledge is tried: of three fragments with one replica, of two with two, and of two with all numbers.
func trials() []trial {
	one := space{small(2), []uint64{3}, small(2)}
	two := space{small(2), []uint64{0, 2}, small(2)}
	all := space{whole(), []uint64{greatest}, whole()}
	return []trial{
		{one, one.parts(), 0}, {one, one.parts(), 1}, {one, one.parts(), 3},
		{two, two.parts(), 1}, {two, two.parts(), 2},
		{all, all.parts(), 1}, {all, all.parts(), 2},
	}
}

// random returns correct knowledge of a trial's parts with many fragments.
func (r trial) random(source *rand.Rand, count int) []part {
	var l []part
	for range count {
		l = append(l, r.parts[source.Intn(len(r.parts))])
	}
	return l
}

// wide is a trial of more items, replicas and counters.
func wide() trial {
	s := space{small(4), []uint64{0, 1, 7, greatest}, small(3)}
	var parts []part
	for _, p := range s.vectors() {
		set := uint(len(parts)) % 16
		parts = append(parts, part{on(s.items.list(set), p.Vector...), set, p.known})
	}
	return trial{space: s, parts: parts}
}

// checkError checks that the error of Check is the fault that is wanted, or nil for a fault whose code is api.OK.
func checkError(t *testing.T, k api.Knowledge, want api.Fault) {
	t.Helper()
	err := scope.Check(k)
	if want.Code == api.OK {
		if err != nil {
			t.Errorf("Check(%v) = %v at %d", k, err, fault.At(err))
		}
		return
	}
	if f, ok := err.(api.Fault); !ok || f != want {
		t.Errorf("Check(%v) = %#v, want %#v", k, err, want)
	}
}

func TestP11_1Correct(t *testing.T) {
	f := on(list(iv(0, 3), iv(5, greatest)), of(0, 0), of(4, 9, iv(2, 9)), of(greatest, greatest, iv(0, greatest)))
	for _, k := range []api.Knowledge{
		nil,
		{},
		// Items or a Vector are empty, or both.
		{{}},
		{{Items: api.Ranges{}, Vector: api.Vector{}}},
		{{}, {}, {}},
		{on(nil, of(1, 2))},
		{on(list(iv(1, 2)))},
		{on(nil, of(1, 2)), {}, on(list(iv(1, 2)))},
		// The least and the greatest numbers.
		{on(list(iv(0, 0)), of(0, 0))},
		{on(list(iv(greatest, greatest)), of(greatest, greatest))},
		{on(list(iv(0, greatest)), of(0, greatest, iv(0, greatest)))},
		{f},
		// Fragments in any order, whose items meet, touch, or are the same.
		{f, f},
		{f, on(list(iv(0, 3)), of(1, 1))},
		{on(list(iv(5, 9)), of(2, 2)), on(list(iv(3, 4)), of(1, 1)), on(list(iv(0, 2)), of(1, 1))},
		{on(list(iv(5, 9)), of(9, 2)), on(list(iv(4, 5)), of(1, 1)), f, {}},
	} {
		checkError(t, k, api.Fault{})
	}
}

// wrongs returns fragments with one fault, and its code: with each code that the checks of Items and of a Vector have, also where it is not in the first interval, entry or hole.
func wrongs() map[api.Errno][]api.Fragment {
	items, v := list(iv(0, 1), iv(3, 3)), of(1, 9)
	return map[api.Errno][]api.Fragment{
		api.ErrInverted: {
			on(list(iv(2, 1))),
			on(list(iv(greatest, 0)), v),
			on(list(iv(0, 0), iv(2, 2), iv(4, 4), iv(7, 6)), v),
			on(nil, of(0, 5, iv(3, 2))),
			on(items, v, of(2, 9), of(3, 9, iv(0, 0), iv(2, 2), iv(4, 4), iv(7, 6))),
		},
		api.ErrOrder: {
			on(list(iv(1, 1), iv(2, 2))),
			on(list(iv(1, 4), iv(4, 6)), v),
			on(list(iv(0, 0), iv(2, 2), iv(4, 4), iv(3, 3)), v),
			on(list(iv(0, 1), iv(3, greatest), iv(0, 1)), v),
			on(nil, of(0, 5, iv(1, 1), iv(2, 2))),
			on(items, v, of(2, 9), of(3, 9, iv(0, 0), iv(3, 3), iv(1, 1))),
			on(nil, v, v),
			on(items, of(0, 1), of(5, 1), of(7, 1), of(6, 1)),
			on(items, of(greatest, 1), of(0, 1)),
		},
		api.ErrHole: {
			on(nil, of(0, 5, iv(5, 6))),
			on(items, v, of(2, 9), of(3, 9, iv(0, 0), iv(2, 2), iv(4, 4), iv(6, 10))),
			on(items, of(greatest, greatest-1, iv(greatest, greatest))),
		},
	}
}

// One wrong fragment, at each place among others that are correct.
func TestP11_1OneFault(t *testing.T) {
	for code, fragments := range wrongs() {
		for _, f := range fragments {
			for count := range 5 {
				k := make(api.Knowledge, count)
				for i := range k {
					k[i] = on(list(iv(5, 6), iv(9, 9)), of(1, 3), of(2, 5, iv(4, 5)))
				}
				for at := range count + 1 {
					checkError(t, slices.Insert(clone(k), at, f), api.Fault{Code: code, At: at})
				}
			}
		}
	}
}

// Of several wrong fragments the first one counts, and Items come before the Vector.
func TestP11_1SeveralFaults(t *testing.T) {
	good := on(list(iv(0, 1)), of(1, 2))
	inverted, touching := list(iv(0, 0), iv(3, 2)), list(iv(0, 0), iv(1, 2))
	hole := of(1, 5, iv(6, 6))
	for _, c := range []struct {
		k    api.Knowledge
		want api.Fault
	}{
		{api.Knowledge{on(inverted, hole)}, api.Fault{Code: api.ErrInverted, At: 0}},
		{api.Knowledge{on(touching, hole)}, api.Fault{Code: api.ErrOrder, At: 0}},
		{api.Knowledge{on(touching, of(1, 5, iv(2, 1)))}, api.Fault{Code: api.ErrOrder, At: 0}},
		{api.Knowledge{on(inverted, of(1, 5), of(1, 5))}, api.Fault{Code: api.ErrInverted, At: 0}},
		{api.Knowledge{good, on(inverted, hole), good}, api.Fault{Code: api.ErrInverted, At: 1}},
		{api.Knowledge{good, good, on(touching, hole)}, api.Fault{Code: api.ErrOrder, At: 2}},
		// The Items of a later fragment do not come before the Vector of an earlier one.
		{api.Knowledge{on(nil, hole), on(inverted)}, api.Fault{Code: api.ErrHole, At: 0}},
		{api.Knowledge{good, on(nil, hole), on(touching), on(inverted)}, api.Fault{Code: api.ErrHole, At: 1}},
		{api.Knowledge{good, on(touching), on(inverted), on(nil, hole)}, api.Fault{Code: api.ErrOrder, At: 1}},
		{api.Knowledge{good, on(inverted), good, on(inverted, hole)}, api.Fault{Code: api.ErrInverted, At: 1}},
		// At is not that of the error within the fragment, which is later or earlier.
		{api.Knowledge{on(list(iv(0, 0), iv(2, 2), iv(4, 4), iv(5, 5)))}, api.Fault{Code: api.ErrOrder, At: 0}},
		{api.Knowledge{good, good, good, on(list(iv(1, 0)))}, api.Fault{Code: api.ErrInverted, At: 3}},
		{api.Knowledge{good, good, good, on(nil, hole)}, api.Fault{Code: api.ErrHole, At: 3}},
		{api.Knowledge{on(nil, of(1, 5), of(2, 5), of(3, 5), of(0, 5))}, api.Fault{Code: api.ErrOrder, At: 0}},
	} {
		checkError(t, c.k, c.want)
	}
}

// anyLists are lists that are correct, and others.
func anyLists() []api.Ranges {
	return []api.Ranges{
		nil, list(iv(1, 3)), list(iv(2, 1)), list(iv(1, 1), iv(2, 2)), list(iv(2, 3), iv(0, 1)), list(iv(0, greatest), iv(greatest, 0)), list(iv(0, 0), iv(2, greatest)),
	}
}

// anyFragments are fragments that are correct, and others.
func anyFragments() []api.Fragment {
	var vectors []api.Vector
	for _, holes := range anyLists() {
		vectors = append(vectors, api.Vector{of(5, 3, holes...)}, api.Vector{of(5, 2), of(7, 2, holes...)})
	}
	vectors = append(vectors, nil, api.Vector{of(5, 3), of(5, 3)}, api.Vector{of(greatest, 3), of(0, greatest)})
	var all []api.Fragment
	for _, items := range anyLists() {
		for _, v := range vectors {
			all = append(all, on(items, v...))
		}
	}
	return all
}

// Much knowledge that is correct, and much more that is not.
func TestP11_1AllKnowledge(t *testing.T) {
	counts := map[api.Fault]int{}
	for count := range 3 {
		for k := range tuples(anyFragments(), count) {
			want := model(k)
			counts[want]++
			checkError(t, k, want)
		}
	}
	for at := range 2 {
		for _, code := range []api.Errno{api.ErrInverted, api.ErrOrder, api.ErrHole} {
			if f := (api.Fault{Code: code, At: at}); counts[f] < 50 {
				t.Errorf("only %d have the code %d at %d", counts[f], code, at)
			}
		}
	}
	if counts[api.Fault{}] < 50 {
		t.Errorf("only %d are correct", counts[api.Fault{}])
	}
}

// One fault at any place of knowledge with many fragments.
func TestP11_1LongKnowledge(t *testing.T) {
	w := wide()
	k := knowledge(w.random(rand.New(rand.NewSource(111)), 300))
	checkError(t, k, api.Fault{})
	for i, f := range k {
		k[i].Items = list(iv(0, 1), iv(4, 3))
		checkError(t, k, api.Fault{Code: api.ErrInverted, At: i})
		k[i] = on(f.Items, of(1, 1), of(2, 3, iv(2, 4)))
		checkError(t, k, api.Fault{Code: api.ErrHole, At: i})
		k[i] = f
	}
}

// checkHas checks for which counters of a replica Has reports true.
func checkHas(t *testing.T, k api.Knowledge, item, replica uint64, known, unknown []uint64) {
	t.Helper()
	for _, counter := range known {
		if !scope.Has(k, item, replica, counter) {
			t.Errorf("Has(%v, %d, %d, %d) = false", k, item, replica, counter)
		}
	}
	for _, counter := range unknown {
		if scope.Has(k, item, replica, counter) {
			t.Errorf("Has(%v, %d, %d, %d) = true", k, item, replica, counter)
		}
	}
}

func TestP11_2HasInOneFragment(t *testing.T) {
	k := api.Knowledge{on(list(iv(1, 5), iv(8, 8)), of(2, 9, iv(0, 1), iv(4, 6)), of(6, 3, iv(2, 3)), of(7, 4, iv(0, 4)))}
	// All items of the fragment, at the edges and inside.
	for _, item := range []uint64{1, 3, 5, 8} {
		checkHas(t, k, item, 2, []uint64{2, 3, 7, 9}, []uint64{0, 1, 4, 5, 6, 10, greatest})
		checkHas(t, k, item, 6, []uint64{0, 1}, []uint64{2, 3, 4, greatest})
		checkHas(t, k, item, 7, nil, []uint64{0, 2, 4, 5})
		checkHas(t, k, item, 5, nil, []uint64{0, 2, 4, 5})
	}
	// Items that it does not have.
	for _, item := range []uint64{0, 6, 7, 9, greatest} {
		checkHas(t, k, item, 2, nil, []uint64{0, 2, 3, 7, 9})
		checkHas(t, k, item, 6, nil, []uint64{0, 1})
	}
	// The least and the greatest numbers.
	all := api.Knowledge{on(list(iv(0, greatest)), of(0, greatest), of(greatest, greatest, iv(1, greatest-1)))}
	for _, item := range []uint64{0, 1 << 63, greatest} {
		checkHas(t, all, item, 0, []uint64{0, 1 << 63, greatest}, nil)
		checkHas(t, all, item, greatest, []uint64{0, greatest}, []uint64{1, 1 << 63, greatest - 1})
		checkHas(t, all, item, 1<<63, nil, []uint64{0, 1, greatest})
	}
	ends := api.Knowledge{on(list(iv(0, 0), iv(greatest, greatest)), of(3, 0))}
	checkHas(t, ends, 0, 3, []uint64{0}, []uint64{1, greatest})
	checkHas(t, ends, greatest, 3, []uint64{0}, []uint64{1, greatest})
	checkHas(t, ends, 1, 3, nil, []uint64{0, 1})
	checkHas(t, ends, greatest-1, 3, nil, []uint64{0, 1})
}

// Knowledge without fragments, and fragments without items or without versions.
func TestP11_2HasNothing(t *testing.T) {
	for _, k := range []api.Knowledge{
		nil, {}, {{}}, {on(nil, of(4, 9))}, {on(list(iv(0, greatest)))}, {on(nil, of(4, 9)), on(list(iv(0, greatest))), {}},
		{on(list(iv(0, greatest)), of(4, 9, iv(0, 9)))},
	} {
		for _, item := range []uint64{0, 4, greatest} {
			for _, replica := range []uint64{0, 4, greatest} {
				checkHas(t, k, item, replica, nil, []uint64{0, 4, 9, greatest})
			}
			if got := scope.At(k, item); len(got) != 0 {
				t.Errorf("At(%v, %d) = %v", k, item, got)
			}
		}
	}
}

func TestP11_2HasInSeveralFragments(t *testing.T) {
	items := func(lo, hi uint64) api.Ranges { return list(iv(lo, hi)) }
	// All of them know the version, one alone does, and none does.
	for _, order := range [][]int{{0, 1, 2}, {0, 2, 1}, {1, 0, 2}, {1, 2, 0}, {2, 0, 1}, {2, 1, 0}} {
		three := api.Knowledge{on(items(1, 5), of(7, 5, iv(1, 2))), on(items(4, 9), of(7, 9, iv(2, 3), iv(5, 8))), on(items(4, 4), of(6, 1), of(7, 2, iv(1, 1)))}
		k := api.Knowledge{three[order[0]], three[order[1]], three[order[2]]}
		checkHas(t, k, 4, 7, []uint64{0, 1, 2, 3, 4, 5, 9}, []uint64{6, 7, 8, 10})
		checkHas(t, k, 4, 6, []uint64{0, 1}, []uint64{2})
		checkHas(t, k, 5, 7, []uint64{0, 1, 3, 4, 5, 9}, []uint64{2, 6, 8, 10})
		checkHas(t, k, 3, 7, []uint64{0, 3, 5}, []uint64{1, 2, 6, 9})
		checkHas(t, k, 6, 7, []uint64{0, 1, 4, 9}, []uint64{2, 3, 5, 8})
		checkHas(t, k, 5, 6, nil, []uint64{0, 1})
		checkHas(t, k, 10, 7, nil, []uint64{0, 1, 4, 9})
	}
	// A version of the vector of one fragment is not known for the items of another one.
	k := api.Knowledge{on(items(0, 3), of(1, 3)), on(items(4, greatest), of(2, 3))}
	checkHas(t, k, 3, 1, []uint64{0, 3}, []uint64{4})
	checkHas(t, k, 3, 2, nil, []uint64{0, 3})
	checkHas(t, k, 4, 1, nil, []uint64{0, 3})
	checkHas(t, k, greatest, 2, []uint64{0, 3}, []uint64{4})
	// Fragments without items or without a vector hide nothing.
	k = api.Knowledge{{}, on(nil, of(1, 0)), on(items(2, 3)), on(items(2, 3), of(1, 3)), on(items(3, 3)), {}}
	checkHas(t, k, 3, 1, []uint64{0, 3}, []uint64{4})
}

// checkAt checks the vector of an item.
func checkAt(t *testing.T, k api.Knowledge, item uint64, want api.Vector) {
	t.Helper()
	got := scope.At(k, item)
	if !sameVector(got, want) {
		t.Errorf("At(%v, %d) = %v, want %v", k, item, got, want)
	}
	if !vector.Canonical(got) {
		t.Errorf("At(%v, %d) = %v, which is not canonical", k, item, got)
	}
}

func TestP11_2At(t *testing.T) {
	items := list(iv(2, 5), iv(9, 9))
	for _, c := range []struct {
		name string
		k    api.Knowledge
		want api.Vector
	}{
		{"no fragment", nil, nil},
		{"no fragment with the item", api.Knowledge{on(list(iv(0, 1), iv(6, 8)), of(1, 3)), on(nil, of(2, 2))}, nil},
		{"no vector", api.Knowledge{on(items)}, nil},
		{"one fragment", api.Knowledge{on(items, of(1, 9, iv(2, 3)), of(4, 0))}, api.Vector{of(1, 9, iv(2, 3)), of(4, 0)}},
		{"one of several", api.Knowledge{on(list(iv(0, 1)), of(1, 1)), on(items, of(2, 2)), on(list(iv(6, 8)), of(3, 3))}, api.Vector{of(2, 2)}},
		{"not canonical", api.Knowledge{on(items, of(1, 5, iv(1, 1), iv(3, 5)), of(2, 4, iv(0, 4)), of(3, 6))}, api.Vector{of(1, 2, iv(1, 1)), of(3, 6)}},
		{"nothing known", api.Knowledge{on(items, of(1, 5, iv(0, 5)), of(greatest, greatest, iv(0, greatest)))}, nil},
		{"not canonical beside others", api.Knowledge{{}, on(items, of(1, 5, iv(4, 5))), on(nil, of(1, 5)), on(items)}, api.Vector{of(1, 3)}},
		{"not canonical, twice", api.Knowledge{on(items, of(1, 5, iv(2, 5))), on(items, of(1, 9, iv(0, 2), iv(7, 9)))}, api.Vector{of(1, 6, iv(2, 2))}},
		{"the same vector", api.Knowledge{on(items, of(1, 5, iv(2, 3))), on(items, of(1, 5, iv(2, 3)))}, api.Vector{of(1, 5, iv(2, 3))}},
		{
			"no hole is left",
			api.Knowledge{on(items, of(1, 9, iv(0, 3), iv(5, 8))), on(items, of(1, 4, iv(2, 2))), on(items, of(1, 8, iv(0, 1), iv(3, 4))), on(items, of(1, 9, iv(0, 8)))},
			api.Vector{of(1, 9)},
		},
		{
			"replicas in different orders",
			api.Knowledge{on(items, of(5, 1), of(9, 1)), on(items, of(0, 1), of(7, 1)), on(items, of(greatest, 1)), on(items, of(1, 1), of(5, 3, iv(0, 2)))},
			api.Vector{of(0, 1), of(1, 1), of(5, 3, iv(2, 2)), of(7, 1), of(9, 1), of(greatest, 1)},
		},
		{
			"descending replicas",
			api.Knowledge{on(items, of(greatest, 4)), on(items, of(7, 3)), on(items, of(6, 2)), on(items, of(0, greatest))},
			api.Vector{of(0, greatest), of(6, 2), of(7, 3), of(greatest, 4)},
		},
		{"all counters", api.Knowledge{on(items, of(3, greatest, iv(0, 1<<63))), on(items, of(3, 1<<63))}, api.Vector{of(3, greatest)}},
	} {
		t.Run(c.name, func(t *testing.T) {
			for _, item := range []uint64{2, 3, 5, 9} {
				checkAt(t, c.k, item, c.want)
			}
		})
	}
}

// The versions at an item are those of its fragments alone.
func TestP11_2AtEachItem(t *testing.T) {
	k := api.Knowledge{
		on(list(iv(1, 5)), of(1, 3)),
		on(list(iv(4, 9)), of(2, 0)),
		on(list(iv(0, 0), iv(9, greatest)), of(1, 5, iv(2, 3)), of(3, 1, iv(0, 0))),
	}
	one, two, three := of(1, 3), of(2, 0), of(3, 1, iv(0, 0))
	for item, want := range map[uint64]api.Vector{
		0: {of(1, 5, iv(2, 3)), three}, 1: {one}, 3: {one}, 4: {one, two}, 5: {one, two}, 6: {two}, 8: {two},
		9: {of(1, 5, iv(2, 3)), two, three}, 10: {of(1, 5, iv(2, 3)), three}, greatest: {of(1, 5, iv(2, 3)), three},
	} {
		checkAt(t, k, item, want)
	}
}

// Each number of fragments has an item: the item 0 is in one, the item 1 in two, and so on.
func TestP11_2AtNumberOfFragments(t *testing.T) {
	const count = 130
	var k api.Knowledge
	want := api.Vector{of(1000, 0)}
	for i := range uint64(count) {
		// Each fragment has one counter of the replica 1000, and a replica of its own: they descend.
		shared := of(1000, i)
		if i > 0 {
			shared.Holes = list(iv(0, i-1))
		}
		k = append(k, on(list(iv(i, count)), of(500-i, 3), shared), on(list(iv(count+1, count+i)), of(1, i)))
	}
	checkAt(t, k[:0], 0, nil)
	for i := range uint64(count) {
		want[len(want)-1].Max = i
		want = slices.Insert(want, 0, of(500-i, 3))
		if !sameVector(scope.At(k, i), want) || !sameVector(scope.At(k[:2*i+1], count), want) {
			t.Errorf("of %d fragments, At is %v and %v, want %v", i+1, scope.At(k, i), scope.At(k[:2*i+1], count), want)
		}
	}
}

// Many fragments with the item, whose replicas descend.
func TestP11_2AtLongKnowledge(t *testing.T) {
	const count = 20000
	var k api.Knowledge
	want := make(api.Vector, count)
	for i := range uint64(count) {
		e := of(count-1-i, i)
		k = append(k, on(list(iv(7, 8+i)), e))
		want[count-1-i] = e
	}
	for item, wanted := range map[uint64]api.Vector{6: nil, 7: want, 8: want, 9: want[:count-1], 7 + count: want[:1], 8 + count: nil} {
		if got := scope.At(k, item); !sameVector(got, wanted) {
			t.Errorf("At of the item %d has %d entries, want %d, or other ones", item, len(got), len(wanted))
		}
	}
}

// Item by item and version by version: all that is known, and nothing else.
func TestP11_2VersionByVersion(t *testing.T) {
	for _, r := range trials()[:5] {
		for parts := range tuples(r.parts, r.count) {
			k := knowledge(parts)
			for item := range uint64(3) {
				at := scope.At(k, item)
				for replica := range uint64(4) {
					for counter := range uint64(3) {
						want := knows(k, item, replica, counter)
						if got := scope.Has(k, item, replica, counter); got != want {
							t.Errorf("Has(%v, %d, %d, %d) = %t", k, item, replica, counter, got)
						}
						if got := vector.Has(at, replica, counter); got != want {
							t.Errorf("At(%v, %d) = %v: %d of %d is known: %t", k, item, at, counter, replica, got)
						}
					}
				}
			}
		}
	}
}

// checkCells checks what is known for the items of each cell: the vector is the canonical one of the sets of the fragments.
func (s space) checkCells(t *testing.T, parts []part) {
	t.Helper()
	k := knowledge(parts)
	for i, cell := range s.items {
		_, known := s.union(parts, i)
		for _, item := range []uint64{cell.Lo, cell.Hi} {
			checkAt(t, k, item, s.canonical(known))
			for r, replica := range s.replicas {
				for c, counters := range s.counters {
					want := known[r]>>c&1 == 1
					if scope.Has(k, item, replica, counters.Lo) != want || scope.Has(k, item, replica, counters.Hi) != want {
						t.Errorf("Has(%v, %d, %d, ..) of %v is not %t", k, item, replica, counters, want)
					}
				}
			}
		}
	}
}

func TestP11_2AllKnowledge(t *testing.T) {
	for _, r := range trials() {
		for parts := range tuples(r.parts, r.count) {
			r.checkCells(t, parts)
		}
	}
	random, w := rand.New(rand.NewSource(112)), wide()
	for count := range 60 {
		for range 5 {
			w.checkCells(t, w.random(random, count))
		}
	}
}

// checkItems checks the items of knowledge.
func checkItems(t *testing.T, k api.Knowledge, want api.Ranges) {
	t.Helper()
	got := scope.Items(k)
	if !slices.Equal(got, want) {
		t.Errorf("Items(%v) = %v, want %v", k, got, want)
	}
	if err := ranges.Check(got); err != nil {
		t.Errorf("Items(%v) = %v: %v", k, got, err)
	}
}

func TestP11_3Items(t *testing.T) {
	for _, c := range []struct{ lists, want api.Knowledge }{
		{nil, nil},
		{api.Knowledge{{}}, nil},
		{api.Knowledge{{}, {}, {Items: api.Ranges{}}}, nil},
		{api.Knowledge{on(list(iv(2, 5)))}, api.Knowledge{on(list(iv(2, 5)))}},
		{api.Knowledge{on(list(iv(2, 5), iv(7, 7), iv(9, greatest)))}, api.Knowledge{on(list(iv(2, 5), iv(7, 7), iv(9, greatest)))}},
		// They overlap, one is inside of another one, they meet in one number, touch, are the same, and lie apart.
		{api.Knowledge{on(list(iv(2, 5))), on(list(iv(4, 9)))}, api.Knowledge{on(list(iv(2, 9)))}},
		{api.Knowledge{on(list(iv(2, 9))), on(list(iv(4, 5)))}, api.Knowledge{on(list(iv(2, 9)))}},
		{api.Knowledge{on(list(iv(2, 5))), on(list(iv(5, 9)))}, api.Knowledge{on(list(iv(2, 9)))}},
		{api.Knowledge{on(list(iv(2, 5))), on(list(iv(6, 9)))}, api.Knowledge{on(list(iv(2, 9)))}},
		{api.Knowledge{on(list(iv(2, 5))), on(list(iv(2, 5)))}, api.Knowledge{on(list(iv(2, 5)))}},
		{api.Knowledge{on(list(iv(2, 5))), on(list(iv(7, 9)))}, api.Knowledge{on(list(iv(2, 5), iv(7, 9)))}},
		// Empty ones beside others.
		{api.Knowledge{{}, on(list(iv(2, 5))), {}, on(list(iv(7, 9))), {}}, api.Knowledge{on(list(iv(2, 5), iv(7, 9)))}},
		// Lists that fill the gaps of each other, and fragments in the middle of whose items others are.
		{api.Knowledge{on(list(iv(1, 2), iv(5, 6), iv(9, 10))), on(list(iv(3, 4), iv(7, 8)))}, api.Knowledge{on(list(iv(1, 10)))}},
		{api.Knowledge{on(list(iv(0, 1), iv(20, 22))), on(list(iv(5, 6))), on(list(iv(9, 9)))}, api.Knowledge{on(list(iv(0, 1), iv(5, 6), iv(9, 9), iv(20, 22)))}},
		{api.Knowledge{on(list(iv(1, 1), iv(3, 3), iv(5, 5), iv(7, 7))), on(list(iv(2, 6)))}, api.Knowledge{on(list(iv(1, 7)))}},
		// Three fragments, of which two are joined by the third one.
		{api.Knowledge{on(list(iv(1, 3))), on(list(iv(7, 9))), on(list(iv(4, 6)))}, api.Knowledge{on(list(iv(1, 9)))}},
		// The least and the greatest numbers.
		{api.Knowledge{on(list(iv(0, 0))), on(list(iv(greatest, greatest)))}, api.Knowledge{on(list(iv(0, 0), iv(greatest, greatest)))}},
		{api.Knowledge{on(list(iv(0, 0), iv(greatest, greatest))), on(list(iv(1, greatest-1)))}, api.Knowledge{on(list(iv(0, greatest)))}},
		{api.Knowledge{on(list(iv(0, greatest))), on(list(iv(0, greatest)))}, api.Knowledge{on(list(iv(0, greatest)))}},
		{api.Knowledge{on(list(iv(1<<63, greatest))), on(list(iv(0, 1<<63-1)))}, api.Knowledge{on(list(iv(0, greatest)))}},
	} {
		var want api.Ranges
		for _, f := range c.want {
			want = f.Items
		}
		checkItems(t, c.lists, want)
		// The order of the fragments does not matter, nor do their vectors.
		turned := clone(c.lists)
		slices.Reverse(turned)
		checkItems(t, turned, want)
		for i := range turned {
			turned[i].Vector = api.Vector{of(7, 5, iv(0, 5)), of(9, 100)}
		}
		checkItems(t, turned, want)
	}
}

// Many fragments in descending order, which lie apart, and then touch.
func TestP11_3ItemsOfLongKnowledge(t *testing.T) {
	const count = 20000
	var k api.Knowledge
	want := make(api.Ranges, count)
	for i := range uint64(count) {
		s := iv(4*(count-1-i), 4*(count-1-i)+2)
		k = append(k, on(list(s), of(1, 1)))
		want[count-1-i] = s
	}
	if got := scope.Items(k); !slices.Equal(got, want) {
		t.Errorf("the items have %d intervals, want %d, or other ones", len(got), len(want))
	}
	for i := range k {
		k[i].Items[0].Hi++
	}
	if got := scope.Items(k); !slices.Equal(got, list(iv(0, 4*count-1))) {
		t.Errorf("the items have %d intervals, want one, or another one", len(got))
	}
}

func TestP11_3Members(t *testing.T) {
	k := api.Knowledge{
		on(list(iv(1, 5), iv(20, 29)), of(1, 1)),
		{},
		on(list(iv(4, 9)), of(2, 0, iv(0, 0))),
		on(nil, of(1, 1)),
		on(list(iv(0, 0), iv(5, 5), iv(25, greatest))),
		on(list(iv(4, 9)), of(2, 0)),
	}
	for _, c := range []struct {
		k    api.Knowledge
		item uint64
		want []int
	}{
		{nil, 0, nil},
		{nil, greatest, nil},
		{api.Knowledge{}, 0, nil},
		{api.Knowledge{{}}, 0, nil},
		{api.Knowledge{on(list(iv(0, 0)))}, 0, []int{0}},
		{api.Knowledge{on(list(iv(0, 0)))}, 1, nil},
		{api.Knowledge{on(list(iv(greatest, greatest)))}, greatest, []int{0}},
		{api.Knowledge{on(list(iv(greatest, greatest)))}, greatest - 1, nil},
		// In no fragment, in one, in some and in all of them.
		{k, 10, nil},
		{k, 19, nil},
		{k, 0, []int{4}},
		{k, 1, []int{0}},
		{k, 4, []int{0, 2, 5}},
		{k, 5, []int{0, 2, 4, 5}},
		{k, 6, []int{2, 5}},
		{k, 9, []int{2, 5}},
		{k, 20, []int{0}},
		{k, 24, []int{0}},
		{k, 25, []int{0, 4}},
		{k, 30, []int{4}},
		{k, greatest, []int{4}},
		{api.Knowledge{k[0], k[2], k[4], k[5]}, 5, []int{0, 1, 2, 3}},
	} {
		if got := scope.Members(c.k, c.item); !slices.Equal(got, c.want) {
			t.Errorf("Members(%v, %d) = %v, want %v", c.k, c.item, got, c.want)
		}
	}
}

// checkSets checks the items, and the fragments with each of them.
func (s space) checkSets(t *testing.T, parts []part) {
	t.Helper()
	k := knowledge(parts)
	set, _ := s.union(parts, 0)
	items := s.items.list(set)
	checkItems(t, k, items)
	probes := []uint64{0, 1, 2, 3, 4, 5, 1 << 63, greatest - 1, greatest}
	for _, item := range probes {
		want := members(k, item)
		if got := scope.Members(k, item); !slices.Equal(got, want) {
			t.Errorf("Members(%v, %d) = %v, want %v", k, item, got, want)
		}
		if contains(items, item) != (len(want) > 0) {
			t.Errorf("%d is in %v, but the fragments %v have it", item, items, want)
		}
	}
}

func TestP11_3AllKnowledge(t *testing.T) {
	for _, r := range trials() {
		for parts := range tuples(r.parts, r.count) {
			r.checkSets(t, parts)
		}
	}
	random, w := rand.New(rand.NewSource(113)), wide()
	for count := range 60 {
		for range 5 {
			w.checkSets(t, w.random(random, count))
		}
	}
}

// checkSame checks that both orders are compared with one result.
func checkSame(t *testing.T, a, b api.Knowledge, want bool) {
	t.Helper()
	if scope.Same(a, b) != want || scope.Same(b, a) != want {
		t.Errorf("Same(%v, %v) = %t, and the other way round %t", a, b, scope.Same(a, b), scope.Same(b, a))
	}
}

func TestP11_4Same(t *testing.T) {
	a, b := on(list(iv(1, 5)), of(1, 3)), on(list(iv(4, 9)), of(2, 0))
	k := api.Knowledge{a, b, {}, on(list(iv(0, 0), iv(7, greatest)), of(1, 9, iv(2, 3), iv(5, 5)), of(6, 1))}
	checkSame(t, k, k, true)
	checkSame(t, k, clone(k), true)
	// Nil and empty lists, at each place.
	checkSame(t, nil, nil, true)
	checkSame(t, nil, api.Knowledge{}, true)
	checkSame(t, api.Knowledge{{}}, api.Knowledge{{Items: api.Ranges{}}}, true)
	checkSame(t, api.Knowledge{{}}, api.Knowledge{{Vector: api.Vector{}}}, true)
	checkSame(t, api.Knowledge{a}, api.Knowledge{{Items: list(iv(1, 5)), Vector: api.Vector{{Replica: 1, Max: 3, Holes: api.Ranges{}}}}}, true)
	checkSame(t, nil, api.Knowledge{{}}, false)
	checkSame(t, api.Knowledge{{}}, api.Knowledge{{}, {}}, false)
	checkSame(t, api.Knowledge{{}}, api.Knowledge{on(nil, api.Entry{})}, false)
	checkSame(t, api.Knowledge{{}}, api.Knowledge{on(list(iv(0, 0)))}, false)
	checkSame(t, api.Knowledge{on(nil, of(0, 0))}, api.Knowledge{on(list(iv(0, 0)))}, false)
	// Other orders of the fragments, the intervals, the entries and the holes.
	checkSame(t, api.Knowledge{a, b}, api.Knowledge{b, a}, false)
	checkSame(t, api.Knowledge{a, a, b}, api.Knowledge{a, b, a}, false)
	checkSame(t, api.Knowledge{on(list(iv(1, 2), iv(4, 5)))}, api.Knowledge{on(list(iv(4, 5), iv(1, 2)))}, false)
	checkSame(t, api.Knowledge{on(nil, of(1, 2), of(3, 4))}, api.Knowledge{on(nil, of(3, 4), of(1, 2))}, false)
	checkSame(t, api.Knowledge{on(nil, of(1, 9, iv(1, 2), iv(4, 5)))}, api.Knowledge{on(nil, of(1, 9, iv(4, 5), iv(1, 2)))}, false)
	// Items or vectors are exchanged.
	checkSame(t, api.Knowledge{a, b}, api.Knowledge{on(b.Items, a.Vector...), on(a.Items, b.Vector...)}, false)
	// The fragments of one are the beginning, or the end, of those of the other one.
	for i := range k {
		checkSame(t, k[:i], k, false)
		checkSame(t, k[i+1:], k, false)
	}
	// The same versions are known for the same items, but in other fragments.
	checkSame(t, api.Knowledge{on(list(iv(1, 5)), of(1, 3))}, api.Knowledge{on(list(iv(1, 3)), of(1, 3)), on(list(iv(4, 5)), of(1, 3))}, false)
	checkSame(t, api.Knowledge{on(list(iv(1, 5)), of(1, 3))}, api.Knowledge{on(list(iv(1, 3), iv(4, 5)), of(1, 3))}, false)
	checkSame(t, api.Knowledge{on(list(iv(1, 5)), of(1, 3))}, api.Knowledge{on(list(iv(1, 5)), of(1, 4, iv(4, 4)))}, false)
	checkSame(t, nil, api.Knowledge{on(nil, of(1, 3))}, false)
}

// fields returns the places of all numbers of knowledge.
func fields(k api.Knowledge) []*uint64 {
	var l []*uint64
	ofList := func(r api.Ranges) {
		for i := range r {
			l = append(l, &r[i].Lo, &r[i].Hi)
		}
	}
	for _, f := range k {
		ofList(f.Items)
		for i := range f.Vector {
			l = append(l, &f.Vector[i].Replica, &f.Vector[i].Max)
			ofList(f.Vector[i].Holes)
		}
	}
	return l
}

// sample returns knowledge with several fragments, intervals, entries and holes.
func sample() api.Knowledge {
	return api.Knowledge{
		on(list(iv(1, 5), iv(8, 9)), of(1, 9, iv(2, 3), iv(5, 5)), of(4, 7)),
		on(list(iv(4, 4)), of(2, 6, iv(0, 1))),
		on(list(iv(0, 3), iv(6, 6), iv(11, 20)), of(3, 5), of(7, 8, iv(6, 8)), of(9, 30, iv(1, 1), iv(4, 5), iv(10, 20))),
	}
}

// One number alone is different, at each place.
func TestP11_4SameEachNumber(t *testing.T) {
	k := sample()
	other := sample()
	for i, number := range fields(other) {
		before := *number
		for _, x := range []uint64{before + 1, before - 1, before + 1<<32, before + 1<<63, greatest} {
			*number = x
			checkSame(t, k, other, false)
		}
		*number = before
		if !scope.Same(k, other) {
			t.Errorf("after the number %d is as before, Same(%v, %v) = false", i, k, other)
		}
	}
}

// One fragment, interval, entry or hole alone is missing, or is there twice, at each place.
func TestP11_4SameEachElement(t *testing.T) {
	k := sample()
	var others []api.Knowledge
	change := func(apply func(other api.Knowledge) api.Knowledge) { others = append(others, apply(clone(k))) }
	for i, f := range k {
		change(func(o api.Knowledge) api.Knowledge { return slices.Delete(o, i, i+1) })
		change(func(o api.Knowledge) api.Knowledge { return slices.Insert(o, i, f) })
		change(func(o api.Knowledge) api.Knowledge { o[i].Items = nil; return o })
		change(func(o api.Knowledge) api.Knowledge { o[i].Vector = nil; return o })
		for j := range f.Items {
			change(func(o api.Knowledge) api.Knowledge { o[i].Items = slices.Delete(o[i].Items, j, j+1); return o })
			change(func(o api.Knowledge) api.Knowledge { o[i].Items = slices.Insert(o[i].Items, j, f.Items[j]); return o })
		}
		for j, e := range f.Vector {
			change(func(o api.Knowledge) api.Knowledge { o[i].Vector = slices.Delete(o[i].Vector, j, j+1); return o })
			change(func(o api.Knowledge) api.Knowledge { o[i].Vector = slices.Insert(o[i].Vector, j, e); return o })
			for h := range e.Holes {
				change(func(o api.Knowledge) api.Knowledge {
					o[i].Vector[j].Holes = slices.Delete(o[i].Vector[j].Holes, h, h+1)
					return o
				})
			}
		}
	}
	for _, other := range others {
		checkSame(t, k, other, false)
	}
}

// All pairs of small knowledge, correct and not.
func TestP11_4SameAllPairs(t *testing.T) {
	var all []api.Knowledge
	for count := range 3 {
		for k := range tuples(anyFragments()[:30], count) {
			all = append(all, k)
		}
	}
	for _, a := range all {
		for _, b := range all {
			if got := scope.Same(a, b); got != same(a, b) {
				t.Errorf("Same(%v, %v) = %t", a, b, got)
			}
		}
	}
}

// overwriteList changes all memory of a list, also behind its end.
func overwriteList(l api.Ranges) {
	l = l[:cap(l)]
	for i := range l {
		l[i] = iv(78, 78)
	}
}

// overwriteVector changes all memory of a vector: its entries and their holes.
func overwriteVector(v api.Vector) {
	v = v[:cap(v)]
	for i := range v {
		overwriteList(v[i].Holes)
		v[i] = of(77, 77, iv(77, 77))
	}
}

// overwrite changes all memory of knowledge: its fragments, and all that they have.
func overwrite(k api.Knowledge) {
	k = k[:cap(k)]
	for i := range k {
		overwriteList(k[i].Items)
		overwriteVector(k[i].Vector)
		k[i] = on(list(iv(76, 76)), of(76, 76))
	}
}

func TestP11_4Clone(t *testing.T) {
	all := []api.Knowledge{
		nil,
		{},
		{{}},
		{{}, {}},
		{{Items: api.Ranges{}, Vector: api.Vector{}}},
		{{Vector: api.Vector{{Replica: 7, Max: 5, Holes: api.Ranges{}}}}},
		{on(list(iv(0, greatest)))},
		{on(nil, of(0, greatest, iv(0, greatest)))},
		sample(),
		knowledge(wide().random(rand.New(rand.NewSource(114)), 200)),
	}
	for count := range 3 {
		for k := range tuples(anyFragments(), count) {
			all = append(all, k)
		}
	}
	for _, k := range all {
		before := clone(k)
		got := scope.Clone(k)
		if !same(got, k) || !scope.Same(got, k) {
			t.Errorf("Clone(%v) = %v", k, got)
		}
		overwrite(got)
		if !same(k, before) {
			t.Fatalf("a change of its clone makes %v of %v", k, before)
		}
	}
}

// Writing into one number of a clone or of its original leaves the other one as it was.
func TestP11_4CloneEachNumber(t *testing.T) {
	want := sample()
	for i := range fields(want) {
		k := sample()
		got := scope.Clone(k)
		*fields(got)[i] += 1000
		if !same(k, want) || scope.Same(got, k) {
			t.Errorf("the number %d of a clone of %v is that of %v", i, want, k)
		}
		k = sample()
		got = scope.Clone(k)
		*fields(k)[i] += 1000
		if !same(got, want) {
			t.Errorf("a change of the number %d makes %v of a clone of %v", i, got, want)
		}
	}
}

// Replacing, or extending, a part of a clone or of its original leaves the other one as it was.
func TestP11_4CloneEachElement(t *testing.T) {
	want := sample()
	for i := range want {
		changes := []func(k api.Knowledge){
			func(k api.Knowledge) { k[i] = api.Fragment{} },
			func(k api.Knowledge) { k[i].Items = nil },
			func(k api.Knowledge) { k[i].Vector = nil },
			func(k api.Knowledge) { k[i].Vector[0] = of(99, 99) },
			func(k api.Knowledge) { k[i].Vector[0].Holes = list(iv(9, 9)) },
			func(k api.Knowledge) { _ = append(k[:i], on(nil, of(99, 99))) },
			func(k api.Knowledge) { _ = append(k[i].Items[:0], iv(99, 99)) },
			func(k api.Knowledge) { _ = append(k[i].Vector[:0], of(99, 99)) },
			func(k api.Knowledge) { overwriteList(k[i].Items) },
			func(k api.Knowledge) { overwriteVector(k[i].Vector) },
			func(k api.Knowledge) { overwriteList(k[i].Vector[0].Holes) },
		}
		for number, change := range changes {
			k := sample()
			got := scope.Clone(k)
			change(got)
			if !same(k, want) {
				t.Errorf("the change %d of the fragment %d of a clone makes %v of %v", number, i, k, want)
			}
			got = scope.Clone(k)
			change(k)
			if !same(got, want) {
				t.Errorf("the change %d of the fragment %d makes %v of a clone of %v", number, i, got, want)
			}
		}
	}
}

// No two parts of a clone share memory, even if they do so in the original.
func TestP11_4CloneParts(t *testing.T) {
	one := list(iv(1, 2), iv(5, 6))
	v := api.Vector{of(1, 9, one...), of(2, 9, one...)}
	k := api.Knowledge{on(one, v...), on(one, v...)}
	want := clone(k)
	for i := range fields(want) {
		got, left := scope.Clone(k), clone(k)
		*fields(got)[i] += 1000
		*fields(left)[i] += 1000
		if !same(got, left) {
			t.Errorf("a change of the number %d of a clone makes %v of it", i, got)
		}
	}
	got := scope.Clone(k)
	for i := range got {
		_ = append(got[i].Items, iv(99, 99))
		for j := range got[i].Vector {
			_ = append(got[i].Vector[j].Holes, iv(98, 98))
		}
		_ = append(got[i].Vector, of(97, 97))
	}
	if !same(got, want) || !same(k, want) {
		t.Errorf("what is appended to parts of a clone makes %v of it, and %v of its original", got, k)
	}
}

func TestExampleOfTheChapter(t *testing.T) {
	k := api.Knowledge{on(list(iv(1, 5)), of(1, 3)), on(list(iv(4, 9)), of(2, 0))}
	checkError(t, k, api.Fault{})
	checkHas(t, k, 4, 1, []uint64{0, 1, 2, 3}, []uint64{4})
	checkHas(t, k, 4, 2, []uint64{0}, []uint64{1})
	checkAt(t, k, 4, api.Vector{of(1, 3), of(2, 0)})
	checkItems(t, k, list(iv(1, 9)))
}

// P1: no argument makes a function panic or run on, not even knowledge that is not correct.
func TestP1AllKnowledge(t *testing.T) {
	numbers := []uint64{0, 1, 3, 5, greatest - 1, greatest}
	var many api.Knowledge
	for x := range uint64(200) {
		many = append(many, on(list(iv(x, x), iv(x, x), iv(x+1, 0)), of(5, x, iv(x, x), iv(x, x), iv(x+1, 0)), of(greatest-x, 9)))
	}
	all := []api.Knowledge{many}
	for count := range 3 {
		for k := range tuples(anyFragments(), count) {
			all = append(all, k)
		}
	}
	for _, k := range all {
		scope.Check(k)
		scope.Items(k)
		scope.Clone(k)
		scope.Same(k, many)
		scope.Same(many, k)
		for _, item := range numbers {
			scope.At(k, item)
			for _, i := range scope.Members(k, item) {
				if i < 0 || i >= len(k) {
					t.Errorf("Members(%v, %d) has %d", k, item, i)
				}
			}
			for _, x := range numbers {
				scope.Has(k, item, 5, x)
				scope.Has(k, item, x, 3)
			}
		}
	}
}

// Rule 4: no argument is changed, nothing behind its end is read or changed, and no result shares memory with it.
func TestArgumentsStay(t *testing.T) {
	lists := list(iv(0, 4), iv(6, 6), iv(9, 12), iv(20, 29), iv(31, greatest))
	entries := api.Vector{of(1, 9, lists[:2]...), of(2, 12, lists[:3]...), of(4, 4, lists[:1]...), of(7, 3), of(8, greatest, lists...)}
	var memory api.Knowledge
	for items := range len(lists) + 1 {
		for size := range len(entries) + 1 {
			memory = append(memory, on(lists[:items], entries[:size]...))
		}
	}
	listsBefore, entriesBefore, before := slices.Clone(lists), cloneVector(entries), clone(memory)
	for count := range len(memory) + 1 {
		k := memory[:count]
		fresh := clone(k)
		for _, item := range []uint64{0, 5, 6, 12, 30, greatest} {
			got, want := scope.At(k, item), scope.At(fresh, item)
			if !sameVector(got, want) {
				t.Errorf("what is behind the end of %v makes %v of At(%d), not %v", k, got, item, want)
			}
			overwriteVector(got)
			indices := scope.Members(k, item)
			if !slices.Equal(indices, members(fresh, item)) {
				t.Errorf("Members(%v, %d) = %v", k, item, indices)
			}
			clear(indices[:cap(indices)])
			for x := range uint64(14) {
				if scope.Has(k, item, x%9, x) != knows(fresh, item, x%9, x) {
					t.Errorf("Has(%v, %d, %d, %d) = %t", k, item, x%9, x, scope.Has(k, item, x%9, x))
				}
			}
		}
		items := scope.Items(k)
		if want := scope.Items(fresh); !slices.Equal(items, want) {
			t.Errorf("what is behind the end of %v makes %v of its items, not %v", k, items, want)
		}
		overwriteList(items)
		checkError(t, k, api.Fault{})
		checkSame(t, k, fresh, true)
		overwrite(scope.Clone(k))
		if !same(memory, before) || !sameVector(entries, entriesBefore) || !slices.Equal(lists, listsBefore) {
			t.Fatalf("a function, or a change of its result, makes %v, %v and %v of its argument", memory, entries, lists)
		}
	}
}

// P2 and rule 4: a result stays as it is when the argument, another result or another part of it changes.
func TestP2Independent(t *testing.T) {
	const item = 4
	k := sample()
	k[2].Items[0].Hi = item
	fresh := clone(k)
	at, items, indices, copied := scope.At(k, item), scope.Items(k), scope.Members(k, item), scope.Clone(k)
	wantAt, wantItems, wantIndices := cloneVector(at), slices.Clone(items), slices.Clone(indices)
	if len(at) < 4 || len(at[0].Holes) == 0 || len(items) < 3 || len(indices) < 3 {
		t.Errorf("%v, %v and %v are too short", at, items, indices)
	}
	overwriteVector(scope.At(k, item))
	overwriteList(scope.Items(k))
	other := scope.Members(k, item)
	clear(other[:cap(other)])
	overwrite(scope.Clone(k))
	overwrite(k)
	if !sameVector(at, wantAt) || !slices.Equal(items, wantItems) || !slices.Equal(indices, wantIndices) || !same(copied, fresh) {
		t.Errorf("a change of an argument or of another result makes the results %v, %v, %v and %v", at, items, indices, copied)
	}
	for i := range at {
		overwriteList(at[i].Holes)
		if rest := at[i+1:]; !sameVector(rest, wantAt[i+1:]) {
			t.Errorf("a change of the holes %d of a vector makes %v of the others", i, rest)
		}
	}
	if !sameVector(scope.At(fresh, item), wantAt) || !slices.Equal(scope.Items(fresh), wantItems) || !slices.Equal(scope.Members(fresh, item), wantIndices) {
		t.Errorf("after changes of the results, they are others for %v", fresh)
	}
}

// Rule 7: the results are the same in each call.
func TestDeterminism(t *testing.T) {
	random, w := rand.New(rand.NewSource(117)), wide()
	k := knowledge(w.random(random, 100))
	for item := range uint64(4) {
		at, items, indices := scope.At(k, item), scope.Items(k), scope.Members(k, item)
		for range 20 {
			if !sameVector(scope.At(k, item), at) || !slices.Equal(scope.Items(k), items) || !slices.Equal(scope.Members(k, item), indices) {
				t.Errorf("the results for %d of %v are not always the same", item, k)
			}
		}
	}
}

// Rule 6: the functions may be called concurrently, also with the same knowledge.
func TestConcurrent(t *testing.T) {
	k := api.Knowledge{on(list(iv(1, 5)), of(1, 3), of(7, 5, iv(4, 5))), on(list(iv(4, 9)), of(2, 0)), on(list(iv(5, 5)), of(1, 4, iv(0, 3)))}
	before := clone(k)
	var wait sync.WaitGroup
	for range 8 {
		wait.Go(func() {
			checkError(t, k, api.Fault{})
			checkAt(t, k, 5, api.Vector{of(1, 4), of(2, 0), of(7, 3)})
			checkItems(t, k, list(iv(1, 9)))
			checkHas(t, k, 5, 7, []uint64{0, 3}, []uint64{4, 5, 6})
			checkSame(t, k, scope.Clone(k), true)
			if got := scope.Members(k, 5); !slices.Equal(got, []int{0, 1, 2}) {
				t.Errorf("Members(%v, 5) = %v", k, got)
			}
		})
	}
	wait.Wait()
	if !same(k, before) {
		t.Errorf("%v is %v", before, k)
	}
}
