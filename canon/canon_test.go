package canon_test

import (
	"iter"
	"math"
	"math/bits"
	"math/rand"
	"slices"
	"strconv"
	"sync"
	"testing"

	"kenning/api"
	"kenning/canon"
	"kenning/fault"
	"kenning/ranges"
	"kenning/scope"
	"kenning/vector"
)

const greatest = math.MaxUint64

func iv(lo, hi uint64) api.Interval { return api.Interval{Lo: lo, Hi: hi} }

// list returns a list of intervals.
func list(l ...api.Interval) api.Ranges { return l }

// of returns an entry.
func of(replica, last uint64, holes ...api.Interval) api.Entry {
	return api.Entry{Replica: replica, Max: last, Holes: holes}
}

// on returns a fragment.
func on(items api.Ranges, entries ...api.Entry) api.Fragment {
	return api.Fragment{Items: items, Vector: entries}
}

// cloneVector returns a copy of a vector.
func cloneVector(v api.Vector) api.Vector {
	var l api.Vector
	for _, e := range v {
		l = append(l, of(e.Replica, e.Max, slices.Clone(e.Holes)...))
	}
	return l
}

// cloneVectors returns a copy of vectors.
func cloneVectors(vectors []api.Vector) []api.Vector {
	var l []api.Vector
	for _, v := range vectors {
		l = append(l, cloneVector(v))
	}
	return l
}

// clone returns a copy of knowledge.
func clone(k api.Knowledge) api.Knowledge {
	var l api.Knowledge
	for _, f := range k {
		l = append(l, on(slices.Clone(f.Items), cloneVector(f.Vector)...))
	}
	return l
}

// sameVector compares two vectors field by field.
func sameVector(a, b api.Vector) bool {
	return slices.EqualFunc(a, b, func(e, f api.Entry) bool {
		return e.Replica == f.Replica && e.Max == f.Max && slices.Equal(e.Holes, f.Holes)
	})
}

// same compares knowledge field by field.
func same(a, b api.Knowledge) bool {
	return slices.EqualFunc(a, b, func(f, g api.Fragment) bool {
		return slices.Equal(f.Items, g.Items) && sameVector(f.Vector, g.Vector)
	})
}

// vectorsOf returns the vectors of knowledge in order.
func vectorsOf(k api.Knowledge) []api.Vector {
	var l []api.Vector
	for _, f := range k {
		l = append(l, f.Vector)
	}
	return l
}

// contains reports whether a number is in one of some intervals.
func contains(l api.Ranges, x uint64) bool {
	return slices.ContainsFunc(l, func(s api.Interval) bool { return s.Lo <= x && x <= s.Hi })
}

// knows reports whether a version is known for an item, as the document says it.
func knows(k api.Knowledge, item, replica, counter uint64) bool {
	return slices.ContainsFunc(k, func(f api.Fragment) bool {
		return contains(f.Items, item) && slices.ContainsFunc(f.Vector, func(e api.Entry) bool {
			return e.Replica == replica && counter <= e.Max && !contains(e.Holes, counter)
		})
	})
}

// numbers returns the numbers of a vector, as the document says it.
func numbers(v api.Vector) []uint64 {
	l := []uint64{uint64(len(v))}
	for _, e := range v {
		l = append(l, e.Replica, e.Max, uint64(len(e.Holes)))
		for _, hole := range e.Holes {
			l = append(l, hole.Lo, hole.Hi)
		}
	}
	return l
}

// listCode returns the error of a list, as the document says it.
func listCode(l api.Ranges) api.Errno {
	for i, s := range l {
		switch {
		case s.Lo > s.Hi:
			return api.ErrInverted
		case i > 0 && (l[i-1].Hi == greatest || s.Lo <= l[i-1].Hi+1):
			return api.ErrOrder
		}
	}
	return api.OK
}

// vectorCode returns the error of a vector, as the document says it.
func vectorCode(v api.Vector) api.Errno {
	for i, e := range v {
		if code := listCode(e.Holes); code != api.OK {
			return code
		}
		if slices.ContainsFunc(e.Holes, func(hole api.Interval) bool { return hole.Hi > e.Max }) {
			return api.ErrHole
		}
		if i > 0 && e.Replica <= v[i-1].Replica {
			return api.ErrOrder
		}
	}
	return api.OK
}

// meets reports whether two fragments have an item in common.
func meets(f, g api.Fragment) bool {
	return slices.ContainsFunc(f.Items, func(s api.Interval) bool {
		return slices.ContainsFunc(g.Items, func(t api.Interval) bool { return s.Lo <= t.Hi && t.Lo <= s.Hi })
	})
}

// fragmentCode returns the error of a fragment of correct knowledge, as the document says it.
func fragmentCode(k api.Knowledge, i int) api.Errno {
	f := k[i]
	switch {
	case len(f.Items) == 0 || len(f.Vector) == 0:
		return api.ErrEmpty
	case slices.ContainsFunc(f.Vector, func(e api.Entry) bool { return contains(e.Holes, e.Max) }):
		return api.ErrCanon
	case slices.ContainsFunc(k[:i], func(g api.Fragment) bool { return meets(f, g) }):
		return api.ErrCanon
	case i > 0 && slices.Compare(numbers(f.Vector), numbers(k[i-1].Vector)) <= 0:
		return api.ErrOrder
	}
	return api.OK
}

// checkOf returns the error of the check of knowledge, as the document says it; a zero Fault is none.
func checkOf(k api.Knowledge) api.Fault {
	for i, f := range k {
		code := listCode(f.Items)
		if code == api.OK {
			code = vectorCode(f.Vector)
		}
		if code != api.OK {
			return api.Fault{Code: code, At: i}
		}
	}
	for i := range k {
		if code := fragmentCode(k, i); code != api.OK {
			return api.Fault{Code: code, At: i}
		}
	}
	return api.Fault{}
}

// segmentsError returns the error of segments and indices, as the document says it; a zero Fault is none.
func segmentsError(count int, segments api.Ranges, index []int) api.Fault {
	if len(index) != len(segments) {
		return api.Fault{Code: api.ErrRange, At: -1}
	}
	for i, x := range index {
		if x < 0 || x >= count {
			return api.Fault{Code: api.ErrRange, At: i}
		}
	}
	for i, s := range segments {
		switch {
		case s.Lo > s.Hi:
			return api.Fault{Code: api.ErrInverted, At: i}
		case i > 0 && s.Lo <= segments[i-1].Hi:
			return api.Fault{Code: api.ErrOrder, At: i}
		}
	}
	for i, s := range segments {
		if i > 0 && s.Lo-1 == segments[i-1].Hi && index[i] == index[i-1] {
			return api.Fault{Code: api.ErrCanon, At: i}
		}
	}
	return api.Fault{}
}

// buildOf returns the knowledge of vectors and segments, or an error, as the document says it.
func buildOf(vectors []api.Vector, segments api.Ranges, index []int) (api.Knowledge, api.Fault) {
	if f := segmentsError(len(vectors), segments, index); f != (api.Fault{}) {
		return nil, f
	}
	k := make(api.Knowledge, len(vectors))
	for i, v := range vectors {
		k[i].Vector = v
		for j, s := range segments {
			if index[j] == i {
				k[i].Items = append(k[i].Items, s)
			}
		}
	}
	if f := checkOf(k); f != (api.Fault{}) {
		return nil, f
	}
	return k, api.Fault{}
}

// tuples yields all lists of a length whose elements are of a pool.
func tuples[T any](pool []T, length int) iter.Seq[[]T] {
	total := 1
	for range length {
		total *= len(pool)
	}
	return func(yield func([]T) bool) {
		for number := range total {
			l := make([]T, length)
			for i := range l {
				l[i] = pool[number%len(pool)]
				number /= len(pool)
			}
			if !yield(l) {
				return
			}
		}
	}
}

// line is some cells in ascending order, each one directly behind the one before it, which have all numbers. A set of cells is a number with a bit for each.
type line []api.Interval

// bottom returns the line of the least numbers, one of each cell, and all numbers behind them.
func bottom(count uint64) line {
	var l line
	for x := range count {
		l = append(l, iv(x, x))
	}
	return append(l, iv(count, greatest))
}

// top returns the line of the greatest numbers, one of each cell, and all numbers in front of them.
func top(count uint64) line {
	l := line{iv(0, greatest-count)}
	for x := range count {
		l = append(l, iv(greatest-count+1+x, greatest-count+1+x))
	}
	return l
}

// both returns the line of the least number, of the greatest one, and of those between them.
func both() line {
	return line{iv(0, 0), iv(1, 1<<63), iv(1<<63+1, greatest-1), iv(greatest, greatest)}
}

// list returns the list of a set: one interval for each run of cells.
func (l line) list(set uint) api.Ranges {
	var r api.Ranges
	for i, cell := range l {
		switch {
		case set>>i&1 == 0:
		case i > 0 && set>>(i-1)&1 == 1:
			r[len(r)-1].Hi = cell.Hi
		default:
			r = append(r, cell)
		}
	}
	return r
}

// lists returns the lists of all sets of the cells.
func (l line) lists() []api.Ranges {
	var lists []api.Ranges
	for set := range uint(1) << len(l) {
		lists = append(lists, l.list(set))
	}
	return lists
}

// up returns the set of the cells up to one.
func up(cell int) uint { return 1<<(cell+1) - 1 }

// space is some replicas in ascending order, and the cells of items and of counters. The numbers of a cell are alike in all knowledge of a space.
type space struct {
	items    line
	replicas []uint64
	counters line
}

// vectors returns all correct vectors of a space, also those whose Max is in a hole.
func (s space) vectors() []api.Vector {
	all := []api.Vector{nil}
	for _, replica := range s.replicas {
		longer := slices.Clone(all)
		for _, v := range all {
			for last, cell := range s.counters {
				for holes := range up(last) + 1 {
					longer = append(longer, append(slices.Clip(v), of(replica, cell.Hi, s.counters.list(holes)...)))
				}
			}
		}
		all = longer
	}
	return all
}

// fragments returns all correct fragments of a space.
func (s space) fragments() []api.Fragment {
	var all []api.Fragment
	for _, items := range s.items.lists() {
		for _, v := range s.vectors() {
			all = append(all, on(items, v...))
		}
	}
	return all
}

// known returns the sets of the counters of each replica that are known for a cell of items, going through all versions.
func (s space) known(k api.Knowledge, cell int) []uint {
	known := make([]uint, len(s.replicas))
	for i, replica := range s.replicas {
		for j, counter := range s.counters {
			if knows(k, s.items[cell].Lo, replica, counter.Lo) {
				known[i] |= 1 << j
			}
		}
	}
	return known
}

// all returns a text of all that is known, which is another one for each other set.
func (s space) all(k api.Knowledge) string {
	text := ""
	for cell := range s.items {
		for _, set := range s.known(k, cell) {
			text += strconv.Itoa(int(set)) + " "
		}
	}
	return text
}

// canonical returns the canonical vector by which a set of counters of each replica is known.
func (s space) canonical(known []uint) api.Vector {
	var v api.Vector
	for i, set := range known {
		if set != 0 {
			last := bits.Len(set) - 1
			v = append(v, of(s.replicas[i], s.counters[last].Hi, s.counters.list(up(last)&^set)...))
		}
	}
	return v
}

// form returns the canonical form of knowledge, going through all items and versions.
func (s space) form(k api.Knowledge) api.Knowledge {
	var form api.Knowledge
	var sets []uint
	for cell := range s.items {
		v := s.canonical(s.known(k, cell))
		if len(v) == 0 {
			continue
		}
		i := slices.IndexFunc(form, func(f api.Fragment) bool { return sameVector(f.Vector, v) })
		if i < 0 {
			i = len(form)
			form, sets = append(form, on(nil, v...)), append(sets, 0)
		}
		sets[i] |= 1 << cell
	}
	for i, set := range sets {
		form[i].Items = s.items.list(set)
	}
	slices.SortFunc(form, func(f, g api.Fragment) int { return slices.Compare(numbers(f.Vector), numbers(g.Vector)) })
	return form
}

// find returns the index of the fragment with a cell of items, or -1.
func (s space) find(k api.Knowledge, cell int) int {
	return slices.IndexFunc(k, func(f api.Fragment) bool { return contains(f.Items, s.items[cell].Lo) })
}

// segments returns the segments of canonical knowledge, going through all items.
func (s space) segments(k api.Knowledge) (l api.Ranges, index []int) {
	before := -1
	for cell, numbers := range s.items {
		i := s.find(k, cell)
		switch {
		case i < 0:
		case i == before:
			l[len(l)-1].Hi = numbers.Hi
		default:
			l, index = append(l, numbers), append(index, i)
		}
		before = i
	}
	return l, index
}

// trial is all knowledge of a space with a number of fragments.
type trial struct {
	space
	count int
}

// trials are those of which all knowledge is tried: of three and four fragments with one replica, of two with two, of two with the greatest numbers, and of two with all numbers.
func trials() []trial {
	one := space{bottom(2), []uint64{3}, bottom(1)}
	small := space{bottom(1), []uint64{0}, bottom(0)}
	two := space{bottom(1), []uint64{0, 2}, bottom(1)}
	high := space{top(2), []uint64{greatest}, top(2)}
	wide := space{both(), []uint64{7}, bottom(1)}
	return []trial{{one, 0}, {one, 1}, {one, 2}, {one, 3}, {small, 4}, {two, 1}, {two, 2}, {high, 2}, {wide, 2}}
}

// each yields all knowledge of a trial.
func (r trial) each() iter.Seq[api.Knowledge] {
	return func(yield func(api.Knowledge) bool) {
		for k := range tuples(r.fragments(), r.count) {
			if !yield(k) {
				return
			}
		}
	}
}

// checkCheck checks the check of knowledge: a zero Fault is none.
func checkCheck(t *testing.T, k api.Knowledge, want api.Fault) {
	t.Helper()
	err := canon.Check(k)
	if want == (api.Fault{}) {
		if err != nil {
			t.Errorf("Check(%v) = %#v, want none", k, err)
		}
	} else if err == nil || err != error(want) {
		t.Errorf("Check(%v) = %#v, want %#v", k, err, want)
	}
	if got := canon.Canonical(k); got != (want == api.Fault{}) {
		t.Errorf("Canonical(%v) = %t", k, got)
	}
}

// checkCanon checks the canonical form of knowledge, that it is canonical, and that it is its own one.
func checkCanon(t *testing.T, k, want api.Knowledge) {
	t.Helper()
	got := canon.Canon(k)
	if !same(got, want) {
		t.Errorf("Canon(%v) = %v, want %v", k, got, want)
	}
	checkCheck(t, got, api.Fault{})
	if again := canon.Canon(got); !same(again, got) {
		t.Errorf("Canon(%v) = %v", got, again)
	}
}

// checkFind checks the index of the fragment with an item.
func checkFind(t *testing.T, k api.Knowledge, item uint64, want int) {
	t.Helper()
	if got := canon.Find(k, item); got != want {
		t.Errorf("Find(%v, %d) = %d, want %d", k, item, got, want)
	}
}

// checkSegments checks the segments of canonical knowledge, and that it is built of them.
func checkSegments(t *testing.T, k api.Knowledge, segments api.Ranges, index []int) {
	t.Helper()
	l, i := canon.Segments(k)
	if !slices.Equal(l, segments) || !slices.Equal(i, index) {
		t.Errorf("Segments(%v) = %v, %v, want %v, %v", k, l, i, segments, index)
	}
	checkBuild(t, vectorsOf(k), l, i, k, api.Fault{})
}

// checkBuild checks what is built: knowledge, or a Fault.
func checkBuild(t *testing.T, vectors []api.Vector, segments api.Ranges, index []int, want api.Knowledge, wantErr api.Fault) {
	t.Helper()
	got, err := canon.Build(vectors, segments, index)
	if !same(got, want) {
		t.Errorf("Build(%v, %v, %v) = %v, want %v", vectors, segments, index, got, want)
	}
	if wantErr == (api.Fault{}) {
		if err != nil {
			t.Errorf("Build(%v, %v, %v): %#v, want no error", vectors, segments, index, err)
		}
	} else if err == nil || err != error(wantErr) {
		t.Errorf("Build(%v, %v, %v): %#v, want %#v", vectors, segments, index, err, wantErr)
	}
}

// ascending returns canonical knowledge with several fragments, whose intervals alternate and touch.
func ascending() api.Knowledge {
	return api.Knowledge{
		on(list(iv(3, 4), iv(9, 9), iv(20, 29)), of(1, 5)),
		on(list(iv(0, 0), iv(5, 6)), of(1, 5, iv(2, 3))),
		on(list(iv(7, 8), iv(greatest, greatest)), of(2, 0)),
		on(list(iv(12, 12)), of(1, 5), of(2, 0)),
	}
}

func TestP13_1Canonical(t *testing.T) {
	one, two := of(1, 9), of(2, 6)
	for name, k := range map[string]api.Knowledge{
		"nil":                      nil,
		"empty":                    {},
		"one fragment":             {on(list(iv(1, 4)), one)},
		"the item 0":               {on(list(iv(0, 0)), one)},
		"the greatest item":        {on(list(iv(greatest, greatest)), one)},
		"all items":                {on(list(iv(0, greatest)), one)},
		"several intervals":        {on(list(iv(0, 0), iv(2, 5), iv(greatest, greatest)), one, two)},
		"holes":                    {on(list(iv(1, 4)), of(1, 9, iv(0, 2), iv(4, 8)), of(greatest, greatest, iv(0, greatest-1)))},
		"several fragments":        ascending(),
		"apart":                    {on(list(iv(1, 4)), one), on(list(iv(6, 9)), two)},
		"touching":                 {on(list(iv(1, 4)), one), on(list(iv(5, 9)), two)},
		"items descend":            {on(list(iv(5, 9)), one), on(list(iv(1, 4)), two)},
		"items alternate":          {on(list(iv(0, 0), iv(2, 2), iv(4, 4)), one), on(list(iv(1, 1), iv(3, 3), iv(5, 5)), two)},
		"items within a gap":       {on(list(iv(0, 3), iv(7, greatest)), one), on(list(iv(4, 6)), two)},
		"all items in two":         {on(list(iv(1, greatest-1)), one), on(list(iv(0, 0), iv(greatest, greatest)), two)},
		"the Replica ascends":      {on(list(iv(1, 1)), of(1, 9)), on(list(iv(2, 2)), of(2, 0))},
		"the Max ascends":          {on(list(iv(1, 1)), of(1, 8, iv(0, 7))), on(list(iv(2, 2)), of(1, 9))},
		"the count of holes":       {on(list(iv(1, 1)), of(1, 9)), on(list(iv(2, 2)), of(1, 9, iv(3, 4))), on(list(iv(3, 3)), of(1, 9, iv(0, 0), iv(2, 2)))},
		"the Lo of a hole":         {on(list(iv(1, 1)), of(1, 9, iv(3, 8))), on(list(iv(2, 2)), of(1, 9, iv(4, 4)))},
		"the Hi of a hole":         {on(list(iv(1, 1)), of(1, 9, iv(3, 3))), on(list(iv(2, 2)), of(1, 9, iv(3, 4)))},
		"the count of entries":     {on(list(iv(1, 1)), of(greatest, greatest)), on(list(iv(2, 2)), of(0, 0), of(1, 0))},
		"the second entry ascends": {on(list(iv(1, 1)), one, of(2, 5)), on(list(iv(2, 2)), one, two)},
		"numbers with highest bit": {on(list(iv(1, 1)), of(1<<63-1, 0)), on(list(iv(2, 2)), of(1<<63, 0)), on(list(iv(3, 3)), of(greatest, 0))},
	} {
		t.Run(name, func(t *testing.T) {
			checkCheck(t, k, api.Fault{})
			// The beginning of canonical knowledge is canonical, too.
			for count := range k {
				checkCheck(t, k[:count], api.Fault{})
			}
		})
	}
}

// incorrect returns fragments that are not correct, by the code of their error.
func incorrect() map[api.Errno][]api.Fragment {
	items, turned := list(iv(50, 54)), list(iv(2, 1))
	return map[api.Errno][]api.Fragment{
		api.ErrInverted: {
			on(turned, of(1, 9)),
			on(turned),
			on(list(iv(50, 54), iv(57, 56)), of(1, 9)),
			on(list(iv(greatest, 0)), of(1, 9)),
			on(items, of(1, 9, iv(3, 2))),
			on(items, of(1, 9), of(2, 9, iv(1, 2), iv(5, 4))),
			on(nil, of(1, 9, iv(3, 2))),
			// The first error of a fragment is that of its items, and the first one of an entry that of its holes.
			on(turned, of(1, 9, iv(3, 3), iv(4, 4))),
			on(turned, of(1, 9), of(1, 9)),
			on(items, of(1, 3, iv(3, 2), iv(9, 9))),
			on(items, of(2, 9), of(1, 9, iv(3, 2))),
		},
		api.ErrOrder: {
			on(list(iv(50, 54), iv(55, 56)), of(1, 9)),
			on(list(iv(50, 54), iv(54, 56)), of(1, 9)),
			on(list(iv(50, 54), iv(50, 54)), of(1, 9)),
			on(list(iv(56, 57), iv(50, 54)), of(1, 9)),
			on(list(iv(50, greatest), iv(0, 40)), of(1, 9)),
			on(items, of(1, 9, iv(3, 3), iv(4, 4))),
			on(items, of(1, 9, iv(5, 6), iv(2, 3))),
			on(items, of(1, 9), of(1, 9)),
			on(items, of(1, 9), of(1, 8)),
			on(items, of(2, 9), of(1, 9)),
			on(items, of(1, 9), of(greatest, 0), of(0, 3)),
			on(nil, of(2, 9), of(1, 9)),
			on(list(iv(50, 54), iv(55, 56)), of(1, 9, iv(3, 2))),
			on(list(iv(50, 54), iv(55, 56)), of(1, 9, iv(9, 10))),
		},
		api.ErrHole: {
			on(items, of(1, 9, iv(10, 10))),
			on(items, of(1, 9, iv(9, 10))),
			on(items, of(1, 0, iv(0, greatest))),
			on(items, of(1, 9), of(2, 9, iv(1, 2), iv(8, 12))),
			on(nil, of(1, 9, iv(10, 10))),
			on(items, of(2, 9), of(1, 9, iv(10, 10))),
		},
	}
}

// wrongs returns knowledge that is correct but not canonical, by names.
func wrongs() map[string]api.Knowledge {
	return map[string]api.Knowledge{
		"no items":             {on(nil, of(1, 3))},
		"no vector":            {on(list(iv(30, 34)))},
		"nothing":              {{}},
		"Max is in a hole":     {on(list(iv(30, 34)), of(1, 3, iv(2, 3)))},
		"nothing known":        {on(list(iv(30, 34)), of(1, 3, iv(0, 3)))},
		"an item is repeated":  {on(list(iv(30, 34)), of(1, 3)), on(list(iv(34, 35)), of(1, 4))},
		"the vectors descend":  {on(list(iv(30, 34)), of(1, 4)), on(list(iv(36, 36)), of(1, 3))},
		"the vectors are same": {on(list(iv(30, 34)), of(1, 4)), on(list(iv(36, 36)), of(1, 4))},
	}
}

// An error of scope.Check comes before all others, in whatever fragment it is.
func TestP13_1Incorrect(t *testing.T) {
	befores := wrongs()
	befores["nothing before"] = nil
	befores["canonical before"] = ascending()
	befores["one canonical before"] = ascending()[:1]
	for code, fragments := range incorrect() {
		for _, f := range fragments {
			for name, before := range befores {
				k := append(slices.Clip(before), f)
				want := api.Fault{Code: code, At: len(before)}
				if err := scope.Check(k); err == nil || err != error(want) {
					t.Fatalf("%s: scope.Check(%v) = %#v, want %#v", name, k, err, want)
				}
				checkCheck(t, k, want)
				// Nothing behind the first one makes a difference.
				for _, behind := range befores {
					checkCheck(t, append(slices.Clip(k), behind...), want)
				}
				for _, others := range incorrect() {
					for _, other := range others {
						checkCheck(t, append(slices.Clip(k), other), want)
					}
				}
			}
		}
	}
}

func TestP13_1Wrong(t *testing.T) {
	for name, k := range wrongs() {
		code := api.ErrCanon
		switch name {
		case "no items", "no vector", "nothing":
			code = api.ErrEmpty
		case "the vectors descend", "the vectors are same":
			code = api.ErrOrder
		}
		checkCheck(t, k, api.Fault{Code: code, At: len(k) - 1})
	}
	a, b, c := list(iv(1, 3)), list(iv(5, 6)), list(iv(8, 9))
	for _, x := range []struct {
		name string
		k    api.Knowledge
		code api.Errno
		at   int
	}{
		{"no items, not nil", api.Knowledge{{Items: api.Ranges{}, Vector: api.Vector{of(1, 3)}}}, api.ErrEmpty, 0},
		{"no vector, not nil", api.Knowledge{{Items: a, Vector: api.Vector{}}}, api.ErrEmpty, 0},
		{"no items of the second", api.Knowledge{on(a, of(1, 1)), on(nil, of(1, 2))}, api.ErrEmpty, 1},
		{"no items of the last", append(ascending(), on(nil, of(1, 5), of(2, 1))), api.ErrEmpty, 4},
		{"no vector of the second", api.Knowledge{on(a, of(1, 1)), on(b)}, api.ErrEmpty, 1},
		{"no vector of the last", append(ascending(), on(list(iv(40, 41)))), api.ErrEmpty, 4},
		{"nothing in the middle", api.Knowledge{on(a, of(1, 1)), {}, on(b, of(1, 2))}, api.ErrEmpty, 1},

		{"Max is in the last hole", api.Knowledge{on(a, of(1, 9, iv(1, 2), iv(6, 9)))}, api.ErrCanon, 0},
		{"Max is in a hole of the second entry", api.Knowledge{on(a, of(1, 9), of(2, 9, iv(9, 9)))}, api.ErrCanon, 0},
		{"Max is in a hole of the second fragment", api.Knowledge{on(a, of(1, 1)), on(b, of(1, 2, iv(2, 2)))}, api.ErrCanon, 1},
		{"the greatest Max is in a hole", api.Knowledge{on(a, of(1, greatest, iv(greatest, greatest)))}, api.ErrCanon, 0},
		{"nothing is known of the replica 0", api.Knowledge{on(a, of(0, 0, iv(0, 0)), of(1, 1))}, api.ErrCanon, 0},
		{"nothing is known of all numbers", api.Knowledge{on(a, of(1, 1)), on(b, of(1, greatest, iv(0, greatest)))}, api.ErrCanon, 1},

		{"the same items", api.Knowledge{on(a, of(1, 1)), on(a, of(1, 2))}, api.ErrCanon, 1},
		{"all items", api.Knowledge{on(list(iv(0, greatest)), of(1, 1)), on(list(iv(0, greatest)), of(1, 2))}, api.ErrCanon, 1},
		{"items meet at the end", api.Knowledge{on(a, of(1, 1)), on(list(iv(3, 4)), of(1, 2))}, api.ErrCanon, 1},
		{"items meet at the beginning", api.Knowledge{on(a, of(1, 1)), on(list(iv(0, 1)), of(1, 2))}, api.ErrCanon, 1},
		{"items within others", api.Knowledge{on(a, of(1, 1)), on(list(iv(2, 2)), of(1, 2))}, api.ErrCanon, 1},
		{"items around others", api.Knowledge{on(a, of(1, 1)), on(list(iv(0, 9)), of(1, 2))}, api.ErrCanon, 1},
		{"the item 0", api.Knowledge{on(list(iv(0, 0)), of(1, 1)), on(list(iv(0, 4)), of(1, 2))}, api.ErrCanon, 1},
		{"the greatest item", api.Knowledge{on(list(iv(greatest, greatest)), of(1, 1)), on(list(iv(1, 1), iv(3, greatest)), of(1, 2))}, api.ErrCanon, 1},
		{"the second interval meets", api.Knowledge{on(list(iv(1, 3), iv(5, 7)), of(1, 1)), on(list(iv(0, 0), iv(4, 4), iv(7, 8)), of(1, 2))}, api.ErrCanon, 1},
		{"an item of the first in the third", api.Knowledge{on(a, of(1, 1)), on(b, of(1, 2)), on(list(iv(3, 4)), of(1, 3))}, api.ErrCanon, 2},
		{"an item of the first in the last", append(ascending(), on(list(iv(29, 30)), of(1, 5), of(2, 1))), api.ErrCanon, 4},
		{"an item of the second in the last", append(ascending(), on(list(iv(0, 0)), of(1, 5), of(2, 1))), api.ErrCanon, 4},
		{"an item of the third in the last", append(ascending(), on(list(iv(greatest, greatest)), of(1, 5), of(2, 1))), api.ErrCanon, 4},
		{"items of all in the last", append(ascending(), on(list(iv(0, greatest)), of(1, 5), of(2, 1))), api.ErrCanon, 4},

		{"equal vectors", api.Knowledge{on(a, of(1, 1)), on(b, of(1, 1))}, api.ErrOrder, 1},
		{"equal vectors with holes", api.Knowledge{on(a, of(1, 5, iv(2, 3)), of(2, 2)), on(b, of(1, 5, iv(2, 3)), of(2, 2))}, api.ErrOrder, 1},
		{"the Replica descends", api.Knowledge{on(a, of(2, 0)), on(b, of(1, 9))}, api.ErrOrder, 1},
		{"the Max descends", api.Knowledge{on(a, of(1, 9)), on(b, of(1, 8, iv(0, 7)))}, api.ErrOrder, 1},
		{"the count of entries descends", api.Knowledge{on(a, of(0, 0), of(1, 0)), on(b, of(greatest, greatest))}, api.ErrOrder, 1},
		{"the count of holes descends", api.Knowledge{on(a, of(1, 9, iv(3, 4))), on(b, of(1, 9))}, api.ErrOrder, 1},
		{"the Lo of a hole descends", api.Knowledge{on(a, of(1, 9, iv(4, 4))), on(b, of(1, 9, iv(3, 8)))}, api.ErrOrder, 1},
		{"the Hi of a hole descends", api.Knowledge{on(a, of(1, 9, iv(3, 5))), on(b, of(1, 9, iv(3, 4)))}, api.ErrOrder, 1},
		{"the highest bit", api.Knowledge{on(a, of(1<<63, 0)), on(b, of(1<<63-1, 0))}, api.ErrOrder, 1},
		{"the third vector descends", api.Knowledge{on(a, of(1, 1)), on(b, of(1, 3)), on(c, of(1, 2))}, api.ErrOrder, 2},
		{"the first vector is again the third", api.Knowledge{on(a, of(1, 1)), on(b, of(1, 3)), on(c, of(1, 1))}, api.ErrOrder, 2},
		{"the last vector is again there", append(ascending(), on(list(iv(40, 41)), of(1, 5), of(2, 0))), api.ErrOrder, 4},
	} {
		t.Run(x.name, func(t *testing.T) { checkCheck(t, x.k, api.Fault{Code: x.code, At: x.at}) })
	}
}

func TestP13_1SeveralFaults(t *testing.T) {
	a, b, c := list(iv(1, 3)), list(iv(5, 6)), list(iv(8, 9))
	full := of(1, 3, iv(2, 3))
	for _, x := range []struct {
		name string
		k    api.Knowledge
		code api.Errno
		at   int
	}{
		// One fragment that is wrong in several ways.
		{"empty items, not canonical", api.Knowledge{on(nil, full)}, api.ErrEmpty, 0},
		{"empty items, order", api.Knowledge{on(a, of(1, 1)), on(nil, of(1, 1))}, api.ErrEmpty, 1},
		{"empty vector, repeated", api.Knowledge{on(a, of(1, 1)), on(a)}, api.ErrEmpty, 1},
		{"empty vector, order", api.Knowledge{on(a, of(1, 1)), on(b)}, api.ErrEmpty, 1},
		{"empty items, not canonical, order", api.Knowledge{on(a, of(2, 1)), on(nil, full)}, api.ErrEmpty, 1},
		{"not canonical, repeated", api.Knowledge{on(a, of(1, 1)), on(a, full)}, api.ErrCanon, 1},
		{"not canonical, order", api.Knowledge{on(a, of(2, 1)), on(b, full)}, api.ErrCanon, 1},
		{"repeated, order", api.Knowledge{on(a, of(2, 1)), on(a, of(1, 1))}, api.ErrCanon, 1},
		{"repeated, equal", api.Knowledge{on(a, of(1, 1)), on(b, of(1, 2)), on(a, of(1, 2))}, api.ErrCanon, 2},
		{"not canonical, repeated, order", api.Knowledge{on(a, of(2, 1)), on(a, full)}, api.ErrCanon, 1},
		// Several fragments that are wrong.
		{"order, then empty", api.Knowledge{on(a, of(1, 1)), on(b, of(1, 1)), {}}, api.ErrOrder, 1},
		{"order, then not canonical", api.Knowledge{on(a, of(1, 1)), on(b, of(1, 1)), on(c, full)}, api.ErrOrder, 1},
		{"order, then repeated", api.Knowledge{on(a, of(1, 1)), on(b, of(1, 1)), on(a, of(1, 2))}, api.ErrOrder, 1},
		{"not canonical, then empty", api.Knowledge{on(a, full), {}}, api.ErrCanon, 0},
		{"not canonical, then order", api.Knowledge{on(a, full), on(b, of(1, 1))}, api.ErrCanon, 0},
		{"not canonical, then repeated", api.Knowledge{on(a, full), on(a, of(1, 4))}, api.ErrCanon, 0},
		{"repeated, then empty", api.Knowledge{on(a, of(1, 1)), on(a, of(1, 2)), {}}, api.ErrCanon, 1},
		{"repeated twice", api.Knowledge{on(a, of(1, 1)), on(b, of(1, 2)), on(b, of(1, 3)), on(a, of(1, 4))}, api.ErrCanon, 2},
		{"repeated twice, the first one first", api.Knowledge{on(a, of(1, 1)), on(b, of(1, 2)), on(a, of(1, 3)), on(b, of(1, 4))}, api.ErrCanon, 2},
		{"empty, then empty", api.Knowledge{on(a, of(1, 1)), on(b), on(nil, of(1, 2))}, api.ErrEmpty, 1},
		{"empty, then repeated", api.Knowledge{on(a), on(a, of(1, 1))}, api.ErrEmpty, 0},
		{"empty, then order", api.Knowledge{on(nil, of(2, 1)), on(a, of(1, 1))}, api.ErrEmpty, 0},
	} {
		t.Run(x.name, func(t *testing.T) { checkCheck(t, x.k, api.Fault{Code: x.code, At: x.at}) })
	}
}

// Each fragment of canonical knowledge is made wrong alone.
func TestP13_1EachFragment(t *testing.T) {
	for i := range ascending() {
		for _, x := range []struct {
			code  api.Errno
			spoil func(f *api.Fragment)
		}{
			{api.ErrEmpty, func(f *api.Fragment) { f.Items = nil }},
			{api.ErrEmpty, func(f *api.Fragment) { f.Vector = nil }},
			{api.ErrCanon, func(f *api.Fragment) { f.Vector[0] = of(1, 6, iv(6, 6)) }},
			{api.ErrInverted, func(f *api.Fragment) { f.Items = list(iv(1, 0)) }},
			{api.ErrHole, func(f *api.Fragment) { f.Vector[0].Holes = list(iv(6, 6)) }},
		} {
			k := ascending()
			x.spoil(&k[i])
			checkCheck(t, k, api.Fault{Code: x.code, At: i})
		}
		for j := range i {
			k := ascending()
			k[i].Items = append(k[j].Items[:1:1], iv(50, 50))
			checkCheck(t, k, api.Fault{Code: api.ErrCanon, At: i})
			k = ascending()
			k[i].Vector = k[j].Vector
			checkCheck(t, k, api.Fault{Code: api.ErrOrder, At: i})
		}
	}
}

// All knowledge of some fragments, correct or not.
func TestP13_1AllKnowledge(t *testing.T) {
	for _, r := range trials() {
		for k := range r.each() {
			checkCheck(t, k, checkOf(k))
		}
	}
	s := space{bottom(1), []uint64{3}, bottom(1)}
	mixed := s.fragments()
	for _, code := range []api.Errno{api.ErrInverted, api.ErrOrder, api.ErrHole} {
		mixed = append(mixed, incorrect()[code][:4]...)
	}
	for count := range 4 {
		for k := range tuples(mixed, count) {
			checkCheck(t, k, checkOf(k))
		}
	}
}

// chain returns canonical knowledge with many fragments, whose items descend.
func chain(count uint64) api.Knowledge {
	var k api.Knowledge
	for i := range count {
		lo := 4 * (count - i)
		k = append(k, on(list(iv(lo, lo+1), iv(lo+8*count, lo+8*count+2)), of(1, i), of(5, 3, iv(1, 2))))
	}
	return k
}

func TestP13_1LongKnowledge(t *testing.T) {
	const count = 30000
	k := chain(count)
	checkCheck(t, k, api.Fault{})
	for _, at := range []int{1, 2, count / 3, count - 2, count - 1} {
		for _, other := range []int{0, at / 2, at - 1} {
			items := k[at].Items
			k[at].Items = list(items[0], iv(k[other].Items[1].Hi, k[other].Items[1].Hi))
			if err := canon.Check(k); err == nil || err != error(api.Fault{Code: api.ErrCanon, At: at}) {
				t.Errorf("an item of the fragment %d in the fragment %d: %#v", other, at, err)
			}
			k[at].Items = items
		}
		entries := k[at].Vector
		k[at].Vector = k[at-1].Vector
		if err := canon.Check(k); err == nil || err != error(api.Fault{Code: api.ErrOrder, At: at}) {
			t.Errorf("the vector of the fragment %d twice: %#v", at-1, err)
		}
		k[at].Vector = entries
	}
	checkCheck(t, k, api.Fault{})
}

func TestP13_2Canon(t *testing.T) {
	one, two, holes := of(1, 9), of(2, 6), of(1, 9, iv(3, 5))
	nothing := of(3, 4, iv(0, 4))
	for _, c := range []struct {
		name    string
		k, want api.Knowledge
	}{
		{"no fragment", nil, nil},
		{"no fragment, not nil", api.Knowledge{}, nil},
		{"no items", api.Knowledge{on(nil, one), on(nil, two)}, nil},
		{"no vector", api.Knowledge{on(list(iv(1, 4))), on(list(iv(3, 7)))}, nil},
		{"no items and no vector", api.Knowledge{{}, {Items: api.Ranges{}, Vector: api.Vector{}}}, nil},
		{"nothing known", api.Knowledge{on(list(iv(1, 4)), nothing), on(list(iv(3, 7)), of(1, greatest, iv(0, greatest)), of(2, 0, iv(0, 0)))}, nil},
		{"nothing known for all items", api.Knowledge{on(list(iv(0, greatest)), nothing)}, nil},
		{"one fragment", api.Knowledge{on(list(iv(1, 4), iv(6, 7)), holes, two)}, api.Knowledge{on(list(iv(1, 4), iv(6, 7)), holes, two)}},
		{"all items", api.Knowledge{on(list(iv(0, greatest)), holes, two)}, api.Knowledge{on(list(iv(0, greatest)), holes, two)}},
		{"Max is in a hole", api.Knowledge{on(list(iv(1, 4)), of(1, 12, iv(3, 5), iv(10, 12)))}, api.Knowledge{on(list(iv(1, 4)), holes)}},
		{"nothing known of some replicas", api.Knowledge{on(list(iv(1, 4)), of(0, 0, iv(0, 0)), one, nothing)}, api.Knowledge{on(list(iv(1, 4)), one)}},
		{
			"nothing known for some items",
			api.Knowledge{on(list(iv(0, 9))), on(list(iv(3, 4)), one), on(nil, two), on(list(iv(4, 12)), nothing)},
			api.Knowledge{on(list(iv(3, 4)), one)},
		},
		{"items in one fragment", api.Knowledge{on(list(iv(1, 4)), one), on(list(iv(6, 7)), two)}, api.Knowledge{on(list(iv(1, 4)), one), on(list(iv(6, 7)), two)}},
		{"the vectors descend", api.Knowledge{on(list(iv(1, 4)), two), on(list(iv(6, 7)), one)}, api.Knowledge{on(list(iv(6, 7)), one), on(list(iv(1, 4)), two)}},
		{"items in several fragments", api.Knowledge{on(list(iv(1, 5)), one), on(list(iv(4, 9)), two)}, api.Knowledge{on(list(iv(1, 3)), one), on(list(iv(6, 9)), two), on(list(iv(4, 5)), one, two)}},
		{"items in all fragments", api.Knowledge{on(list(iv(1, 5)), of(3, 0)), on(list(iv(1, 5)), two), on(list(iv(1, 5)), one)}, api.Knowledge{on(list(iv(1, 5)), one, two, of(3, 0))}},
		{
			"some items in all of three",
			api.Knowledge{on(list(iv(0, 6)), one), on(list(iv(3, 9)), two), on(list(iv(2, 4), iv(6, 7)), of(1, 12, iv(0, 10)))},
			api.Knowledge{
				on(list(iv(0, 1)), one), on(list(iv(2, 2)), of(1, 12, iv(10, 10))), on(list(iv(8, 9)), two),
				on(list(iv(5, 5)), one, two), on(list(iv(7, 7)), of(1, 12, iv(0, 10)), two), on(list(iv(3, 4), iv(6, 6)), of(1, 12, iv(10, 10)), two),
			},
		},
		{"the same fragment", api.Knowledge{on(list(iv(1, 5)), one, two), on(list(iv(1, 5)), one, two)}, api.Knowledge{on(list(iv(1, 5)), one, two)}},
		{"the same vector, apart", api.Knowledge{on(list(iv(1, 3)), one), on(list(iv(5, 6)), one)}, api.Knowledge{on(list(iv(1, 3), iv(5, 6)), one)}},
		{"the same vector, touching", api.Knowledge{on(list(iv(1, 3)), one), on(list(iv(4, 6)), one)}, api.Knowledge{on(list(iv(1, 6)), one)}},
		{"the same vector, meeting", api.Knowledge{on(list(iv(1, 5)), one), on(list(iv(4, 9)), one)}, api.Knowledge{on(list(iv(1, 9)), one)}},
		{"the same vector, across", api.Knowledge{on(list(iv(0, 0), iv(2, 2), iv(5, 5)), one), on(list(iv(1, 1), iv(3, 3), iv(7, 7)), one)}, api.Knowledge{on(list(iv(0, 3), iv(5, 5), iv(7, 7)), one)}},
		{"the same vector, and all items", api.Knowledge{on(list(iv(0, 0), iv(greatest, greatest)), one), on(list(iv(1, greatest-1)), one)}, api.Knowledge{on(list(iv(0, greatest)), one)}},
		{
			"fewer intervals, and fewer fragments",
			api.Knowledge{on(list(iv(1, 2), iv(6, 7), iv(20, 20)), two), on(list(iv(3, 3), iv(8, 9)), one), on(list(iv(4, 5), iv(10, 10), iv(21, 30)), two)},
			api.Knowledge{on(list(iv(3, 3), iv(8, 9)), one), on(list(iv(1, 2), iv(4, 7), iv(10, 10), iv(20, 30)), two)},
		},
		{"a gap of one item stays", api.Knowledge{on(list(iv(1, 2)), one), on(list(iv(4, 5)), one)}, api.Knowledge{on(list(iv(1, 2), iv(4, 5)), one)}},
		{
			"vectors that differ only in their form",
			api.Knowledge{
				on(list(iv(6, 6)), of(0, 0, iv(0, 0)), one),
				on(list(iv(1, 1)), of(1, 12, iv(10, 12))),
				on(list(iv(3, 3)), one, of(5, 5, iv(0, 5))),
				on(list(iv(2, 2)), one),
				on(list(iv(5, 5)), of(1, greatest, iv(10, greatest)), of(greatest, 0, iv(0, 0))),
			},
			api.Knowledge{on(list(iv(1, 3), iv(5, 6)), one)},
		},
		{"vectors that differ only in their form, meeting", api.Knowledge{on(list(iv(1, 5)), of(1, 12, iv(10, 12))), on(list(iv(3, 8)), one, nothing)}, api.Knowledge{on(list(iv(1, 8)), one)}},
		{"one is known by the other one", api.Knowledge{on(list(iv(1, 9)), one, two), on(list(iv(3, 4)), of(1, 3))}, api.Knowledge{on(list(iv(1, 9)), one, two)}},
		{"the same only where they meet", api.Knowledge{on(list(iv(1, 5)), of(1, 3)), on(list(iv(4, 9)), of(1, 7, iv(0, 3))), on(list(iv(20, 20)), of(1, 7))}, api.Knowledge{on(list(iv(1, 3)), of(1, 3)), on(list(iv(4, 5), iv(20, 20)), of(1, 7)), on(list(iv(6, 9)), of(1, 7, iv(0, 3)))}},
		{
			"the items 0 and 2^64 - 1 in some fragments",
			api.Knowledge{on(list(iv(0, 0), iv(greatest, greatest)), two), on(list(iv(0, 3)), one), on(list(iv(greatest-3, greatest)), one)},
			api.Knowledge{on(list(iv(1, 3), iv(greatest-3, greatest-1)), one), on(list(iv(0, 0), iv(greatest, greatest)), one, two)},
		},
		{
			"the items 0 and 2^64 - 1 in no fragment",
			api.Knowledge{on(list(iv(1, greatest-1)), one), on(list(iv(1, 1), iv(greatest-1, greatest-1)), two)},
			api.Knowledge{on(list(iv(2, greatest-2)), one), on(list(iv(1, 1), iv(greatest-1, greatest-1)), one, two)},
		},
		{
			"a fragment with all items, and others",
			api.Knowledge{on(list(iv(0, greatest)), one), on(list(iv(0, 0)), two), on(list(iv(7, 8)), two), on(list(iv(greatest, greatest)), of(0, 0))},
			api.Knowledge{on(list(iv(1, 6), iv(9, greatest-1)), one), on(list(iv(greatest, greatest)), of(0, 0), one), on(list(iv(0, 0), iv(7, 8)), one, two)},
		},
		{"the canonical form decides the order", api.Knowledge{on(list(iv(1, 1)), of(1, 9)), on(list(iv(2, 2)), of(0, 3, iv(0, 3)), of(1, 20, iv(5, 20)))}, api.Knowledge{on(list(iv(2, 2)), of(1, 4)), on(list(iv(1, 1)), of(1, 9))}},
		{"the greatest numbers", api.Knowledge{on(list(iv(7, greatest)), of(greatest, greatest)), on(list(iv(0, 8)), of(greatest, greatest-1, iv(0, greatest-2)))}, api.Knowledge{on(list(iv(0, 6)), of(greatest, greatest-1, iv(0, greatest-2))), on(list(iv(7, greatest)), of(greatest, greatest))}},
		{"canonical", ascending(), ascending()},
		{"canonical twice", append(ascending(), ascending()...), ascending()},
	} {
		t.Run(c.name, func(t *testing.T) {
			checkCanon(t, c.k, c.want)
			slices.Reverse(c.k)
			checkCanon(t, c.k, c.want)
		})
	}
}

func TestP13_2AllKnowledge(t *testing.T) {
	for _, r := range trials() {
		for k := range r.each() {
			checkCanon(t, k, r.form(k))
		}
	}
}

// Many fragments over few cells, so that many of them have the same items or vectors.
func TestP13_2ManyFragments(t *testing.T) {
	random := rand.New(rand.NewSource(131))
	for _, items := range []line{bottom(1), bottom(7), top(12), both()} {
		s := space{items, []uint64{0, 1, 7, greatest}, bottom(2)}
		vectors := s.vectors()
		for count := range 60 {
			var k api.Knowledge
			few := vectors[:1+random.Intn(len(vectors))]
			for range count {
				set := uint(random.Intn(1 << len(items)))
				// Half of the sets have few cells.
				if random.Intn(2) == 0 {
					set &= uint(random.Intn(1<<len(items))) & uint(random.Intn(1<<len(items)))
				}
				k = append(k, on(items.list(set), few[random.Intn(len(few))]...))
			}
			checkCanon(t, k, s.form(k))
		}
	}
}

// randomRanges returns a list of intervals with numbers between them, the first one not before a number.
func randomRanges(random *rand.Rand, from, count uint64) api.Ranges {
	var l api.Ranges
	for range count {
		lo := from + uint64(random.Intn(4))
		hi := lo + uint64(random.Intn(4))
		l = append(l, iv(lo, hi))
		from = hi + 2
	}
	return l
}

// randomKnowledge returns correct knowledge of items up to 63, replicas up to 4 and counters up to 31.
func randomKnowledge(random *rand.Rand, count int) api.Knowledge {
	var k api.Knowledge
	for range count {
		f := on(randomRanges(random, uint64(random.Intn(20)), uint64(random.Intn(6))))
		for replica := range uint64(5) {
			if random.Intn(2) == 0 {
				holes := randomRanges(random, uint64(random.Intn(3)), uint64(random.Intn(4)))
				last := uint64(random.Intn(12))
				if len(holes) > 0 {
					last = max(holes[len(holes)-1].Hi, last)
				}
				f.Vector = append(f.Vector, of(replica, last, holes...))
			}
		}
		k = append(k, f)
	}
	return k
}

// numbered is the space of random knowledge.
func numbered() space { return space{bottom(63), []uint64{0, 1, 2, 3, 4}, bottom(31)} }

// Item by item and version by version: all that is known, and nothing else.
func TestP13_2VersionByVersion(t *testing.T) {
	random := rand.New(rand.NewSource(132))
	for round := range 150 {
		k := randomKnowledge(random, round%8)
		got := canon.Canon(k)
		if s := numbered(); s.all(got) != s.all(k) {
			t.Errorf("by %v, the canonical form of %v, other versions are known", got, k)
		}
		for item := range uint64(64) {
			if known := scope.At(k, item); !sameVector(scope.At(got, item), known) {
				t.Errorf("by %v, the canonical form of %v, %v are known for the item %d", got, k, scope.At(got, item), item)
			}
		}
		checkCanon(t, k, numbered().form(k))
	}
}

func TestP13_2LongKnowledge(t *testing.T) {
	const count = 20000
	k := chain(count)
	checkCanon(t, k, k)
	reversed := clone(k)
	slices.Reverse(reversed)
	checkCanon(t, reversed, k)
	// Many intervals with one great vector, which is not kept for each of them.
	const great = 5000
	var items, gaps api.Ranges
	var v api.Vector
	for x := range uint64(great) {
		items = append(items, iv(4*x, 4*x+1))
		gaps = append(gaps, iv(4*x+2, 4*x+3))
		v = append(v, of(x, x))
	}
	want := api.Knowledge{on(items, v[1:]...), on(gaps, v...)}
	checkCanon(t, api.Knowledge{want[1], want[0]}, want)
	checkCanon(t, api.Knowledge{on(gaps, v...), on(items, v...)}, api.Knowledge{on(list(iv(0, 4*great-1)), v...)})
	// Nested items: in the middle, all fragments are known.
	k = nil
	for i := range uint64(3000) {
		k = append(k, on(list(iv(i, 10000-i)), of(1, i)))
	}
	want = nil
	for i := range uint64(2999) {
		want = append(want, on(list(iv(i, i), iv(10000-i, 10000-i)), of(1, i)))
	}
	checkCanon(t, k, append(want, on(list(iv(2999, 7001)), of(1, 2999))))
}

func TestP13_3Find(t *testing.T) {
	for item, want := range map[uint64]int{
		0: 1, 1: -1, 2: -1, 3: 0, 4: 0, 5: 1, 6: 1, 7: 2, 8: 2, 9: 0, 10: -1, 11: -1, 12: 3, 13: -1, 19: -1,
		20: 0, 21: 0, 25: 0, 28: 0, 29: 0, 30: -1, 31: -1, 1 << 63: -1, greatest - 1: -1, greatest: 2,
	} {
		checkFind(t, ascending(), item, want)
	}
	for _, item := range []uint64{0, 1, 7, 1 << 63, greatest} {
		checkFind(t, nil, item, -1)
		checkFind(t, api.Knowledge{}, item, -1)
		checkFind(t, api.Knowledge{on(list(iv(0, greatest)), of(1, 2))}, item, 0)
	}
	two := api.Knowledge{on(list(iv(0, 0), iv(2, greatest-1)), of(1, 2)), on(list(iv(1, 1), iv(greatest, greatest)), of(2, 2))}
	for item, want := range map[uint64]int{0: 0, 1: 1, 2: 0, 3: 0, greatest - 1: 0, greatest: 1} {
		checkFind(t, two, item, want)
	}
	apart := api.Knowledge{on(list(iv(10, 12)), of(1, 2)), on(list(iv(5, 7)), of(2, 2)), on(list(iv(14, 14)), of(3, 2))}
	for item, want := range map[uint64]int{0: -1, 4: -1, 5: 1, 6: 1, 7: 1, 8: -1, 9: -1, 10: 0, 11: 0, 12: 0, 13: -1, 14: 2, 15: -1, greatest: -1} {
		checkFind(t, apart, item, want)
	}
}

func TestP13_3Segments(t *testing.T) {
	one, two, three := of(1, 1), of(1, 2), of(1, 3)
	for _, c := range []struct {
		name     string
		k        api.Knowledge
		segments api.Ranges
		index    []int
	}{
		{"none", nil, nil, nil},
		{"none, not nil", api.Knowledge{}, nil, nil},
		{"one", api.Knowledge{on(list(iv(3, 5)), one)}, list(iv(3, 5)), []int{0}},
		{"the item 0", api.Knowledge{on(list(iv(0, 0)), one)}, list(iv(0, 0)), []int{0}},
		{"the greatest item", api.Knowledge{on(list(iv(greatest, greatest)), one)}, list(iv(greatest, greatest)), []int{0}},
		{"all items", api.Knowledge{on(list(iv(0, greatest)), one)}, list(iv(0, greatest)), []int{0}},
		{"several of one fragment", api.Knowledge{on(list(iv(0, 0), iv(2, 5), iv(7, 9)), one)}, list(iv(0, 0), iv(2, 5), iv(7, 9)), []int{0, 0, 0}},
		{"apart", api.Knowledge{on(list(iv(1, 2)), one), on(list(iv(4, 5)), two)}, list(iv(1, 2), iv(4, 5)), []int{0, 1}},
		{"apart, descending", api.Knowledge{on(list(iv(4, 5)), one), on(list(iv(1, 2)), two)}, list(iv(1, 2), iv(4, 5)), []int{1, 0}},
		{"touching", api.Knowledge{on(list(iv(1, 2)), one), on(list(iv(3, 5)), two)}, list(iv(1, 2), iv(3, 5)), []int{0, 1}},
		{"touching, descending", api.Knowledge{on(list(iv(3, 5)), one), on(list(iv(1, 2)), two)}, list(iv(1, 2), iv(3, 5)), []int{1, 0}},
		{"alternating", api.Knowledge{on(list(iv(1, 2), iv(6, 6)), one), on(list(iv(3, 5), iv(7, 9)), two)}, list(iv(1, 2), iv(3, 5), iv(6, 6), iv(7, 9)), []int{0, 1, 0, 1}},
		{"alternating, apart", api.Knowledge{on(list(iv(3, 4), iv(12, 13)), one), on(list(iv(0, 1), iv(9, 10), iv(15, 15)), two)}, list(iv(0, 1), iv(3, 4), iv(9, 10), iv(12, 13), iv(15, 15)), []int{1, 0, 1, 0, 1}},
		{
			"up to the greatest item",
			api.Knowledge{on(list(iv(greatest-1, greatest-1)), one), on(list(iv(0, 4), iv(greatest, greatest)), two), on(list(iv(5, greatest-2)), three)},
			list(iv(0, 4), iv(5, greatest-2), iv(greatest-1, greatest-1), iv(greatest, greatest)), []int{1, 2, 0, 1},
		},
		{"within a gap", api.Knowledge{on(list(iv(0, 0), iv(greatest, greatest)), one), on(list(iv(1, greatest-1)), two)}, list(iv(0, 0), iv(1, greatest-1), iv(greatest, greatest)), []int{0, 1, 0}},
		{
			"of four fragments", ascending(),
			list(iv(0, 0), iv(3, 4), iv(5, 6), iv(7, 8), iv(9, 9), iv(12, 12), iv(20, 29), iv(greatest, greatest)), []int{1, 0, 1, 2, 0, 3, 0, 2},
		},
	} {
		t.Run(c.name, func(t *testing.T) { checkSegments(t, c.k, c.segments, c.index) })
	}
}

// The canonical ones of all knowledge, and the canonical forms of all: item by item.
func TestP13_3AllKnowledge(t *testing.T) {
	for _, r := range trials() {
		check := func(k api.Knowledge) {
			l, index := r.segments(k)
			checkSegments(t, k, l, index)
			for cell, items := range r.items {
				checkFind(t, k, items.Lo, r.find(k, cell))
				checkFind(t, k, items.Hi, r.find(k, cell))
			}
		}
		for k := range r.each() {
			if checkOf(k) == (api.Fault{}) {
				check(k)
			}
		}
		seen := map[string]bool{}
		for k := range r.each() {
			if key := r.all(k); !seen[key] {
				seen[key] = true
				check(r.form(k))
			}
		}
	}
}

func TestP13_3LongKnowledge(t *testing.T) {
	const count = 20000
	k := chain(count)
	l, index := canon.Segments(k)
	if len(l) != 2*count || len(index) != 2*count {
		t.Fatalf("there are %d segments and %d indices", len(l), len(index))
	}
	for i, s := range l {
		if want := count - 1 - i%count; index[i] != want || s != k[want].Items[i/count] {
			t.Fatalf("the segment %d is %v with the index %d", i, s, index[i])
		}
	}
	for i := 0; i < count; i += 1000 {
		for _, s := range k[i].Items {
			if canon.Find(k, s.Lo) != i || canon.Find(k, s.Hi) != i || canon.Find(k, s.Hi+1) != -1 {
				t.Errorf("the fragment %d is not found", i)
			}
		}
	}
	checkBuild(t, vectorsOf(k), l, index, k, api.Fault{})
}

func TestP13_4Build(t *testing.T) {
	a, b, c := api.Vector{of(1, 5)}, api.Vector{of(1, 5, iv(2, 3))}, api.Vector{of(0, 4), of(9, greatest, iv(0, greatest-1))}
	for _, x := range []struct {
		name     string
		vectors  []api.Vector
		segments api.Ranges
		index    []int
		want     api.Knowledge
	}{
		{"nothing", nil, nil, nil, nil},
		{"nothing, not nil", []api.Vector{}, api.Ranges{}, []int{}, nil},
		{"one", []api.Vector{a}, list(iv(3, 5)), []int{0}, api.Knowledge{on(list(iv(3, 5)), a...)}},
		{"all items", []api.Vector{c}, list(iv(0, greatest)), []int{0}, api.Knowledge{on(list(iv(0, greatest)), c...)}},
		{"the item 0", []api.Vector{a}, list(iv(0, 0)), []int{0}, api.Knowledge{on(list(iv(0, 0)), a...)}},
		{"the greatest item", []api.Vector{a}, list(iv(greatest, greatest)), []int{0}, api.Knowledge{on(list(iv(greatest, greatest)), a...)}},
		{"several segments of one vector", []api.Vector{a}, list(iv(0, 1), iv(3, 5), iv(7, 7)), []int{0, 0, 0}, api.Knowledge{on(list(iv(0, 1), iv(3, 5), iv(7, 7)), a...)}},
		{"apart", []api.Vector{a, b}, list(iv(1, 2), iv(4, 5)), []int{0, 1}, api.Knowledge{on(list(iv(1, 2)), a...), on(list(iv(4, 5)), b...)}},
		{"touching", []api.Vector{a, b}, list(iv(1, 2), iv(3, 5)), []int{1, 0}, api.Knowledge{on(list(iv(3, 5)), a...), on(list(iv(1, 2)), b...)}},
		{"alternating", []api.Vector{a, b}, list(iv(1, 2), iv(3, 5), iv(6, 6), iv(7, 9)), []int{0, 1, 0, 1}, api.Knowledge{on(list(iv(1, 2), iv(6, 6)), a...), on(list(iv(3, 5), iv(7, 9)), b...)}},
		{
			"up to the greatest item", []api.Vector{a, b, c}, list(iv(0, 4), iv(5, greatest-2), iv(greatest-1, greatest-1), iv(greatest, greatest)), []int{1, 2, 0, 1},
			api.Knowledge{on(list(iv(greatest-1, greatest-1)), a...), on(list(iv(0, 4), iv(greatest, greatest)), b...), on(list(iv(5, greatest-2)), c...)},
		},
		{
			"four vectors", vectorsOf(ascending()),
			list(iv(0, 0), iv(3, 4), iv(5, 6), iv(7, 8), iv(9, 9), iv(12, 12), iv(20, 29), iv(greatest, greatest)), []int{1, 0, 1, 2, 0, 3, 0, 2},
			ascending(),
		},
	} {
		t.Run(x.name, func(t *testing.T) {
			checkBuild(t, x.vectors, x.segments, x.index, x.want, api.Fault{})
			checkSegments(t, x.want, x.segments, x.index)
		})
	}
}

func TestP13_4Errors(t *testing.T) {
	a, b, c := api.Vector{of(1, 1)}, api.Vector{of(1, 2)}, api.Vector{of(1, 3)}
	two, three := []api.Vector{a, b}, []api.Vector{a, b, c}
	inverted, full, shared := api.Vector{of(1, 5, iv(3, 2))}, api.Vector{of(1, 5, iv(4, 5))}, api.Vector{of(1, 1), of(1, 2)}
	for _, x := range []struct {
		name     string
		vectors  []api.Vector
		segments api.Ranges
		index    []int
		code     api.Errno
		at       int
	}{
		{"fewer indices", two, list(iv(1, 2), iv(4, 5)), []int{0}, api.ErrRange, -1},
		{"no index", two, list(iv(1, 2), iv(4, 5)), nil, api.ErrRange, -1},
		{"more indices", two, list(iv(1, 2), iv(4, 5)), []int{0, 1, 0}, api.ErrRange, -1},
		{"indices without segments", two, nil, []int{0}, api.ErrRange, -1},
		{"indices without anything", nil, nil, []int{0}, api.ErrRange, -1},
		{"no index and no vector", nil, list(iv(1, 2)), nil, api.ErrRange, -1},
		{"an index below 0", two, list(iv(1, 2), iv(4, 5)), []int{-1, 1}, api.ErrRange, 0},
		{"the last index below 0", two, list(iv(1, 2), iv(4, 5)), []int{0, -1}, api.ErrRange, 1},
		{"the least index", two, list(iv(1, 2), iv(4, 5)), []int{0, math.MinInt}, api.ErrRange, 1},
		{"the index is the number of vectors", two, list(iv(1, 2), iv(4, 5)), []int{0, 2}, api.ErrRange, 1},
		{"the first index is the number of vectors", two, list(iv(1, 2), iv(4, 5)), []int{2, 0}, api.ErrRange, 0},
		{"the greatest index", two, list(iv(1, 2), iv(4, 5)), []int{math.MaxInt, 0}, api.ErrRange, 0},
		{"two wrong indices", three, list(iv(1, 2), iv(4, 5), iv(7, 7)), []int{0, 3, -1}, api.ErrRange, 1},
		{"an index, but no vector", nil, list(iv(1, 2)), []int{0}, api.ErrRange, 0},

		{"inverted", two, list(iv(2, 1), iv(4, 5)), []int{0, 1}, api.ErrInverted, 0},
		{"the last one is inverted", two, list(iv(1, 2), iv(5, 4)), []int{0, 1}, api.ErrInverted, 1},
		{"all numbers are inverted", two, list(iv(1, 2), iv(greatest, 0)), []int{0, 1}, api.ErrInverted, 1},
		{"two are inverted", three, list(iv(1, 2), iv(5, 4), iv(8, 7)), []int{0, 1, 2}, api.ErrInverted, 1},
		{"the same segment", two, list(iv(1, 2), iv(1, 2)), []int{0, 1}, api.ErrOrder, 1},
		{"meeting", two, list(iv(1, 2), iv(2, 5)), []int{0, 1}, api.ErrOrder, 1},
		{"within", two, list(iv(1, 5), iv(3, 4)), []int{0, 1}, api.ErrOrder, 1},
		{"around", two, list(iv(3, 4), iv(1, 5)), []int{0, 1}, api.ErrOrder, 1},
		{"descending", two, list(iv(4, 5), iv(1, 2)), []int{0, 1}, api.ErrOrder, 1},
		{"touching, descending", two, list(iv(3, 5), iv(1, 2)), []int{0, 1}, api.ErrOrder, 1},
		{"behind the greatest item", two, list(iv(3, greatest), iv(0, 1)), []int{0, 1}, api.ErrOrder, 1},
		{"at the greatest item", two, list(iv(3, greatest), iv(greatest, greatest)), []int{0, 1}, api.ErrOrder, 1},
		{"the third one meets", three, list(iv(1, 2), iv(4, 7), iv(7, 9)), []int{0, 1, 2}, api.ErrOrder, 2},
		{"the third one descends to the first one", three, list(iv(1, 2), iv(4, 7), iv(3, 3)), []int{0, 1, 2}, api.ErrOrder, 2},
		{"two are not in order", three, list(iv(4, 5), iv(2, 2), iv(1, 1)), []int{0, 1, 2}, api.ErrOrder, 1},

		{"one index, touching", two, list(iv(1, 2), iv(3, 5), iv(7, 7)), []int{0, 0, 1}, api.ErrCanon, 1},
		{"one index, touching at the end", two, list(iv(1, 1), iv(3, 5), iv(6, greatest)), []int{0, 1, 1}, api.ErrCanon, 2},
		{"one index, touching at the greatest item", two, list(iv(1, 1), iv(3, greatest-1), iv(greatest, greatest)), []int{0, 1, 1}, api.ErrCanon, 2},
		{"one index, touching at the item 0", two, list(iv(0, 0), iv(1, 1), iv(4, 5)), []int{0, 0, 1}, api.ErrCanon, 1},
		{"one index, touching twice", two, list(iv(1, 2), iv(3, 5), iv(6, 6), iv(8, 8)), []int{0, 0, 0, 1}, api.ErrCanon, 1},

		{"a vector with a wrong hole", []api.Vector{a, inverted}, list(iv(1, 2), iv(3, 5)), []int{0, 1}, api.ErrInverted, 1},
		{"a hole above Max", []api.Vector{{of(1, 5, iv(6, 6))}, b}, list(iv(1, 2), iv(3, 5)), []int{0, 1}, api.ErrHole, 0},
		{"holes that touch", []api.Vector{a, {of(1, 5, iv(1, 1), iv(2, 2))}}, list(iv(1, 2), iv(3, 5)), []int{0, 1}, api.ErrOrder, 1},
		{"one replica twice", []api.Vector{shared, b}, list(iv(1, 2), iv(3, 5)), []int{0, 1}, api.ErrOrder, 0},
		{"an empty vector", []api.Vector{a, nil}, list(iv(1, 2), iv(3, 5)), []int{0, 1}, api.ErrEmpty, 1},
		{"an empty vector first", []api.Vector{{}, a}, list(iv(1, 2), iv(3, 5)), []int{0, 1}, api.ErrEmpty, 0},
		{"a vector without a segment", two, list(iv(1, 2), iv(4, 5)), []int{0, 0}, api.ErrEmpty, 1},
		{"the first vector without a segment", two, list(iv(1, 2), iv(4, 5)), []int{1, 1}, api.ErrEmpty, 0},
		{"a middle vector without a segment", three, list(iv(1, 2), iv(4, 5)), []int{0, 2}, api.ErrEmpty, 1},
		{"no segment", two, nil, nil, api.ErrEmpty, 0},
		{"Max is in a hole", []api.Vector{full, b}, list(iv(1, 2), iv(3, 5)), []int{0, 1}, api.ErrCanon, 0},
		{"nothing is known", []api.Vector{a, {of(2, 5, iv(0, 5))}}, list(iv(1, 2), iv(3, 5)), []int{0, 1}, api.ErrCanon, 1},
		{"equal vectors", []api.Vector{a, a}, list(iv(1, 2), iv(3, 5)), []int{0, 1}, api.ErrOrder, 1},
		{"the vectors descend", []api.Vector{b, a}, list(iv(1, 2), iv(3, 5)), []int{0, 1}, api.ErrOrder, 1},
		{"the third vector descends", []api.Vector{a, c, b}, list(iv(1, 2), iv(3, 5), iv(8, 9)), []int{0, 1, 2}, api.ErrOrder, 2},

		// Two errors at once.
		{"fewer indices, one below 0", two, list(iv(1, 2), iv(4, 5)), []int{-1}, api.ErrRange, -1},
		{"more indices, one too great", two, list(iv(1, 2)), []int{0, 2}, api.ErrRange, -1},
		{"fewer indices, and inverted", two, list(iv(2, 1), iv(4, 5)), []int{0}, api.ErrRange, -1},
		{"fewer indices, and not in order", two, list(iv(4, 5), iv(1, 2)), []int{0}, api.ErrRange, -1},
		{"fewer indices, and a wrong vector", []api.Vector{inverted}, list(iv(4, 5)), nil, api.ErrRange, -1},
		{"a wrong index behind an inverted segment", two, list(iv(2, 1), iv(4, 5)), []int{0, 2}, api.ErrRange, 1},
		{"a wrong index of an inverted segment", two, list(iv(2, 1), iv(4, 5)), []int{2, 0}, api.ErrRange, 0},
		{"a wrong index behind segments not in order", three, list(iv(4, 5), iv(1, 2), iv(8, 9)), []int{0, 1, 3}, api.ErrRange, 2},
		{"a wrong index behind segments that touch", two, list(iv(1, 2), iv(3, 5), iv(8, 9)), []int{0, 0, -1}, api.ErrRange, 2},
		{"a wrong index, and a wrong vector", []api.Vector{inverted}, list(iv(4, 5)), []int{1}, api.ErrRange, 0},
		{"inverted and not in order", two, list(iv(4, 5), iv(2, 1)), []int{0, 1}, api.ErrInverted, 1},
		{"inverted and touching", two, list(iv(4, 5), iv(6, 5)), []int{0, 0}, api.ErrInverted, 1},
		{"not in order, then inverted", three, list(iv(4, 5), iv(1, 2), iv(9, 8)), []int{0, 1, 2}, api.ErrOrder, 1},
		{"inverted, then not in order", three, list(iv(4, 5), iv(9, 8), iv(1, 2)), []int{0, 1, 2}, api.ErrInverted, 1},
		{"touching, then inverted", two, list(iv(1, 2), iv(3, 5), iv(9, 8)), []int{0, 0, 1}, api.ErrInverted, 2},
		{"touching, then not in order", two, list(iv(1, 2), iv(3, 5), iv(1, 8)), []int{0, 0, 1}, api.ErrOrder, 2},
		{"inverted, then touching", two, list(iv(2, 1), iv(3, 5), iv(6, 6)), []int{0, 1, 1}, api.ErrInverted, 0},
		{"inverted, and a wrong vector", []api.Vector{inverted}, list(iv(2, 1)), []int{0}, api.ErrInverted, 0},
		{"not in order, and a wrong vector", []api.Vector{full, inverted}, list(iv(2, 3), iv(1, 1)), []int{0, 1}, api.ErrOrder, 1},
		{"touching, and a wrong vector", []api.Vector{inverted, b}, list(iv(1, 2), iv(3, 5)), []int{1, 1}, api.ErrCanon, 1},
		{"touching, and an empty vector", []api.Vector{nil}, list(iv(1, 2), iv(3, 5)), []int{0, 0}, api.ErrCanon, 1},
		{"touching, and a vector without a segment", two, list(iv(1, 2), iv(3, 5)), []int{0, 0}, api.ErrCanon, 1},
		{"a vector without a segment, and a wrong one", []api.Vector{a, b, inverted}, list(iv(1, 2)), []int{2}, api.ErrInverted, 2},
		{"a vector without a segment that is wrong", []api.Vector{a, shared}, list(iv(1, 2)), []int{0}, api.ErrOrder, 1},
		{"an empty vector, and a wrong one", []api.Vector{nil, shared}, list(iv(1, 2), iv(3, 5)), []int{0, 1}, api.ErrOrder, 1},
		{"a vector without a segment that is not canonical", []api.Vector{a, full}, list(iv(1, 2)), []int{0}, api.ErrEmpty, 1},
		{"a vector without a segment that is not greater", []api.Vector{a, a}, list(iv(1, 2)), []int{0}, api.ErrEmpty, 1},
		{"not canonical, and a vector without a segment", []api.Vector{full, b}, list(iv(1, 2)), []int{0}, api.ErrCanon, 0},
		{"not canonical and not greater", []api.Vector{{of(2, 0)}, full}, list(iv(1, 2), iv(3, 5)), []int{0, 1}, api.ErrCanon, 1},
		{"not greater, and a vector without a segment", []api.Vector{b, a, c}, list(iv(1, 2), iv(3, 5)), []int{0, 1}, api.ErrOrder, 1},
	} {
		t.Run(x.name, func(t *testing.T) {
			checkBuild(t, x.vectors, x.segments, x.index, nil, api.Fault{Code: x.code, At: x.at})
		})
	}
}

// All lists of vectors, segments and indices of some, wrong ones and others.
func TestP13_4AllArguments(t *testing.T) {
	vectors := []api.Vector{nil, {of(1, 1)}, {of(1, 2)}, {of(1, 2, iv(2, 2))}, {of(1, 2, iv(3, 3))}}
	segments := []api.Interval{iv(0, 0), iv(1, 1), iv(2, 3), iv(1, 0), iv(3, greatest)}
	for counts := range tuples([]int{0, 1, 2, 3}, 3) {
		// Three of all would be too many.
		if counts[0]+counts[1]+counts[2] > 8 {
			continue
		}
		var indices [][]int
		for index := range tuples([]int{-1, 0, 1, 2}, counts[2]) {
			indices = append(indices, index)
		}
		for v := range tuples(vectors, counts[0]) {
			for l := range tuples(segments, counts[1]) {
				for _, index := range indices {
					want, err := buildOf(v, l, index)
					checkBuild(t, v, l, index, want, err)
				}
			}
		}
	}
}

// All ways to give the cells of a line to vectors, or to none.
func TestP13_4AllSegments(t *testing.T) {
	vectors := []api.Vector{{of(1, 1)}, {of(1, 2)}, {of(0, 0), of(7, 2, iv(1, 1))}}
	for _, cells := range []line{bottom(5), top(5), both()} {
		s := space{items: cells}
		for count := range len(vectors) + 1 {
			var owners []int
			for owner := range count + 1 {
				owners = append(owners, owner)
			}
			for owned := range tuples(owners, len(cells)) {
				sets := make([]uint, count+1)
				for cell, owner := range owned {
					sets[owner] |= 1 << cell
				}
				var k api.Knowledge
				want := api.Fault{}
				for i, v := range vectors[:count] {
					k = append(k, on(cells.list(sets[i]), v...))
					if sets[i] == 0 && want == (api.Fault{}) {
						want = api.Fault{Code: api.ErrEmpty, At: i}
					}
				}
				l, index := s.segments(k)
				if want != (api.Fault{}) {
					k = nil
				}
				checkBuild(t, vectors[:count], l, index, k, want)
			}
		}
	}
}

func TestP13_4LongKnowledge(t *testing.T) {
	const count = 20000
	k := chain(count)
	vectors := vectorsOf(k)
	l, index := canon.Segments(k)
	last := len(l) - 1
	for _, at := range []int{1, last / 2, last} {
		segment, i := l[at], index[at]
		l[at] = iv(segment.Hi, segment.Lo)
		checkFault(t, vectors, l, index, api.Fault{Code: api.ErrInverted, At: at})
		l[at].Lo, l[at].Hi = l[at-1].Hi, segment.Hi
		checkFault(t, vectors, l, index, api.Fault{Code: api.ErrOrder, At: at})
		l[at].Lo++
		index[at] = index[at-1]
		checkFault(t, vectors, l, index, api.Fault{Code: api.ErrCanon, At: at})
		index[at] = count
		checkFault(t, vectors, l, index, api.Fault{Code: api.ErrRange, At: at})
		l[at], index[at] = segment, i
	}
	checkFault(t, vectors[:count-1], l, index, api.Fault{Code: api.ErrRange, At: slices.Index(index, count-1)})
	checkFault(t, vectors, l[:last], index, api.Fault{Code: api.ErrRange, At: -1})
	checkFault(t, append(slices.Clip(vectors), api.Vector{of(7, 7), of(8, 8), of(9, 9)}), l, index, api.Fault{Code: api.ErrEmpty, At: count})
	slices.Reverse(vectors)
	checkFault(t, vectors, l, index, api.Fault{Code: api.ErrOrder, At: 1})
}

// checkFault checks that nothing is built of long arguments, which are not shown.
func checkFault(t *testing.T, vectors []api.Vector, segments api.Ranges, index []int, want api.Fault) {
	t.Helper()
	if got, err := canon.Build(vectors, segments, index); len(got) != 0 || err == nil || err != error(want) {
		t.Errorf("Build returns %d fragments and %#v, want %#v", len(got), err, want)
	}
}

// Build inverts Segments, and Segments inverts Build.
func TestP13_5BuildInvertsSegments(t *testing.T) {
	random := rand.New(rand.NewSource(133))
	for round := range 300 {
		form := canon.Canon(randomKnowledge(random, round%9))
		l, index := canon.Segments(form)
		got, err := canon.Build(vectorsOf(form), l, index)
		if err != nil || !same(got, form) {
			t.Errorf("Build of %v, %v, %v = %v, %v", vectorsOf(form), l, index, got, err)
		}
		again, indexAgain := canon.Segments(got)
		if !slices.Equal(again, l) || !slices.Equal(indexAgain, index) {
			t.Errorf("Segments(%v) = %v, %v", got, again, indexAgain)
		}
		for i := range l {
			if i > 0 && (l[i].Lo <= l[i-1].Hi || l[i].Lo == l[i-1].Hi+1 && index[i] == index[i-1]) {
				t.Errorf("Segments(%v) = %v, %v", form, l, index)
			}
			if canon.Find(form, l[i].Lo) != index[i] || canon.Find(form, l[i].Hi) != index[i] {
				t.Errorf("Find(%v) is not %d for %v", form, index[i], l[i])
			}
		}
	}
}

// All canonical knowledge of a space is its own canonical form, is built of its segments, and there is one for each set of versions.
func TestP13_5OwnForm(t *testing.T) {
	s := space{bottom(2), []uint64{3}, bottom(1)}
	found := map[string]bool{}
	for count := range 4 {
		for k := range (trial{s, count}).each() {
			if !canon.Canonical(k) {
				continue
			}
			found[s.all(k)] = true
			checkCanon(t, k, k)
			l, index := s.segments(k)
			checkSegments(t, k, l, index)
		}
	}
	// Each of three cells of items has one of four sets of two counters.
	if len(found) != 4*4*4 {
		t.Errorf("there is canonical knowledge of %d sets", len(found))
	}
}

// Two canonical forms are the same exactly if the same versions are known for the same items.
func TestP13_5OneForm(t *testing.T) {
	for _, r := range trials() {
		forms, sets := map[string]api.Knowledge{}, map[string]string{}
		for k := range r.each() {
			got, key := canon.Canon(k), r.all(k)
			if form, ok := forms[key]; ok && !same(got, form) {
				t.Errorf("the same versions are known by %v and by %v", form, got)
			}
			forms[key] = got
			text := textOf(got)
			if set, ok := sets[text]; ok && set != key {
				t.Errorf("%v is the canonical form of two sets", got)
			}
			sets[text] = key
		}
		if len(forms) != len(sets) {
			t.Errorf("there are %d forms of %d sets", len(sets), len(forms))
		}
	}
}

// textOf returns a text of knowledge, which is another one for each other knowledge.
func textOf(k api.Knowledge) string {
	text := ""
	for _, f := range k {
		text += ranges.Text(f.Items)
		for _, x := range numbers(f.Vector) {
			text += " " + strconv.FormatUint(x, 10)
		}
		text += ";"
	}
	return text
}

// P4: however knowledge is written, its canonical form is the same.
func TestP4OtherForms(t *testing.T) {
	random := rand.New(rand.NewSource(134))
	for round := range 300 {
		k := randomKnowledge(random, round%7)
		form := canon.Canon(k)
		for _, other := range rewritten(random, k) {
			if got := canon.Canon(other); !same(got, form) {
				t.Errorf("the canonical form of %v is %v, and that of %v is %v", k, form, other, got)
			}
		}
		// One version more for one item makes another form.
		item, counter := uint64(random.Intn(70)), uint64(random.Intn(40))
		more := on(list(iv(item, item)), of(2, counter, list(iv(0, counter-1))[:min(1, counter)]...))
		got := canon.Canon(append(slices.Clip(k), more))
		if same(got, form) != knows(k, item, 2, counter) {
			t.Errorf("the canonical form of %v with the version 2, %d for the item %d is %v", k, counter, item, got)
		}
	}
}

// rewritten returns knowledge by which the same versions are known for the same items.
func rewritten(random *rand.Rand, k api.Knowledge) []api.Knowledge {
	shuffled := clone(k)
	random.Shuffle(len(k), func(i, j int) { shuffled[i], shuffled[j] = shuffled[j], shuffled[i] })
	var cut, apart, longer api.Knowledge
	for _, f := range k {
		for _, s := range f.Items {
			middle := s.Lo + (s.Hi-s.Lo)/2
			cut = append(cut, on(list(iv(s.Lo, middle)), f.Vector...), on(list(iv(middle, s.Hi)), f.Vector...))
		}
		for _, e := range f.Vector {
			apart = append(apart, on(f.Items, e))
		}
		var v api.Vector
		for _, e := range f.Vector {
			e = of(e.Replica, e.Max+5, slices.Clone(e.Holes)...)
			if last := len(e.Holes) - 1; last >= 0 && e.Holes[last].Hi+5 >= e.Max {
				e.Holes[last].Hi = e.Max
			} else {
				e.Holes = append(e.Holes, iv(e.Max-4, e.Max))
			}
			v = append(v, e)
		}
		longer = append(longer, on(f.Items, append(v, of(9, 6, iv(0, 6)))...), on(nil, v...), on(list(iv(0, greatest))))
	}
	return []api.Knowledge{shuffled, cut, apart, longer, append(slices.Clip(shuffled), k...)}
}

// P4: the example of the chapter.
func TestExampleOfTheChapter(t *testing.T) {
	v := of(7, 5, iv(2, 3))
	checkCanon(t, api.Knowledge{on(list(iv(1, 3)), v), on(list(iv(4, 6)), v)}, api.Knowledge{on(list(iv(1, 6)), v)})
}

// anyLists are lists that are correct, and others.
func anyLists() []api.Ranges {
	return []api.Ranges{
		nil, list(iv(1, 3)), list(iv(2, 1)), list(iv(1, 1), iv(2, 2)), list(iv(2, 3), iv(0, 1)), list(iv(0, greatest), iv(greatest, 0)), list(iv(0, 0), iv(2, greatest)), list(iv(1, 3), iv(1, 3)),
	}
}

// run calls all functions with knowledge, and with its parts.
func run(k api.Knowledge) {
	canon.Check(k)
	canon.Canonical(k)
	canon.Canon(k)
	for _, item := range []uint64{0, 1, 2, 3, greatest} {
		canon.Find(k, item)
	}
	l, index := canon.Segments(k)
	canon.Build(vectorsOf(k), l, index)
}

// P1: no argument makes a function panic or run on, not even knowledge that is not correct.
func TestP1AllKnowledge(t *testing.T) {
	var fragments []api.Fragment
	for _, items := range anyLists() {
		for _, holes := range anyLists() {
			fragments = append(fragments, on(items, of(5, 3, holes...)), on(items, of(5, 2), of(7, 2, holes...)))
		}
		fragments = append(fragments, on(items), on(items, of(5, 3), of(5, 3)), on(items, of(greatest, 3), of(0, greatest)))
	}
	var many api.Knowledge
	for x := range uint64(200) {
		many = append(many, on(list(iv(x, x), iv(x, x), iv(x+1, 0)), of(5, x, iv(x, x), iv(x, x), iv(x+1, 0)), of(greatest-x, 9)))
	}
	run(many)
	for count := range 3 {
		for k := range tuples(fragments, count) {
			run(k)
		}
	}
}

// P1: Build of arguments of all kinds, also with the least and the greatest indices.
func TestP1Build(t *testing.T) {
	vectors := [][]api.Vector{nil, {nil}, {{of(1, 1)}}, {{of(1, 1)}, {of(1, 2)}}, {{of(5, 3, iv(2, 1))}, nil, {of(1, 2), of(1, 2)}}}
	for _, v := range vectors {
		for _, l := range anyLists() {
			for count := range 4 {
				for index := range tuples([]int{math.MinInt, -1, 0, 1, 2, math.MaxInt}, count) {
					want, err := buildOf(v, l, index)
					checkBuild(t, v, l, index, want, err)
				}
			}
		}
	}
}

// overwriteList changes all memory of a list, also behind its end.
func overwriteList(l api.Ranges) {
	l = l[:cap(l)]
	for i := range l {
		l[i] = iv(78, 78)
	}
}

// overwriteVector changes all memory of a vector: its entries and their holes.
func overwriteVector(v api.Vector) {
	v = v[:cap(v)]
	for i := range v {
		overwriteList(v[i].Holes)
		v[i] = of(77, 77, iv(77, 77))
	}
}

// overwrite changes all memory of knowledge: its fragments, and all that they have.
func overwrite(k api.Knowledge) {
	k = k[:cap(k)]
	for i := range k {
		overwriteList(k[i].Items)
		overwriteVector(k[i].Vector)
		k[i] = on(list(iv(76, 76)), of(76, 76))
	}
}

// overwriteIndex changes all memory of indices.
func overwriteIndex(index []int) {
	index = index[:cap(index)]
	for i := range index {
		index[i] = 75
	}
}

// ofVector returns the places of all numbers of a vector.
func ofVector(v api.Vector) []*uint64 {
	var l []*uint64
	for i := range v {
		l = append(l, &v[i].Replica, &v[i].Max)
		l = append(l, ofList(v[i].Holes)...)
	}
	return l
}

// ofList returns the places of all numbers of a list.
func ofList(r api.Ranges) []*uint64 {
	var l []*uint64
	for i := range r {
		l = append(l, &r[i].Lo, &r[i].Hi)
	}
	return l
}

// fields returns the places of all numbers of knowledge.
func fields(k api.Knowledge) []*uint64 {
	var l []*uint64
	for _, f := range k {
		l = append(append(l, ofList(f.Items)...), ofVector(f.Vector)...)
	}
	return l
}

// sample returns knowledge with several fragments, intervals, entries and holes, in which no item is in two fragments, and whose parts share memory.
func sample() api.Knowledge {
	holes := list(iv(1, 1), iv(3, 5))
	v := api.Vector{of(1, 9, holes...), of(4, 12, holes...), of(6, 5, holes...)}
	items := list(iv(1, 3), iv(5, 8), iv(10, 10), iv(20, 29), iv(40, 44))
	return api.Knowledge{
		on(items[1:2], v[:2]...), on(items[3:], v...), on(items[:1], v[:2]...), on(items[2:3], v[1:]...), on(nil, v...), on(list(iv(50, 51))),
	}
}

// crossing returns knowledge like the sample, in which items are in several fragments.
func crossing() api.Knowledge {
	k := sample()
	return append(k, on(list(iv(2, 6), iv(27, greatest)), k[0].Vector...), on(list(iv(0, 60)), of(1, 7, iv(0, 6)), of(9, 20, iv(0, 4), iv(8, 11))), on(k[1].Items, k[1].Vector...))
}

// overlaid returns canonical knowledge whose parts share memory: holes, entries, and items.
func overlaid() api.Knowledge {
	holes := list(iv(1, 1), iv(3, 4), iv(6, 6))
	v := api.Vector{of(1, 9, holes...), of(4, 12, holes[1:]...), of(6, 5, holes[:2]...), of(7, 8, holes...)}
	items := list(iv(1, 3), iv(5, 8), iv(10, 10), iv(20, 29), iv(40, greatest))
	return api.Knowledge{on(items[1:2], v[:1]...), on(items[3:], v[1:2]...), on(items[:1], v[:2]...), on(items[2:3], v...)}
}

// Rule 4: no argument is changed, nothing behind its end is read or changed, and no result shares memory with it.
func TestArgumentsStay(t *testing.T) {
	if !canon.Canonical(overlaid()) {
		t.Fatal(canon.Check(overlaid()))
	}
	for _, memory := range []api.Knowledge{sample(), crossing(), overlaid(), ascending()} {
		before := clone(memory)
		for count := range len(memory) + 1 {
			k, fresh := memory[:count], clone(before[:count])
			if err, want := canon.Check(k), canon.Check(fresh); fault.Code(err) != fault.Code(want) || fault.At(err) != fault.At(want) {
				t.Errorf("what is behind the end of %v makes %v of its error, not %v", k, err, want)
			}
			form := canon.Canon(k)
			if want := canon.Canon(fresh); !same(form, want) {
				t.Errorf("what is behind the end of %v makes %v of its form, not %v", k, form, want)
			}
			for _, item := range []uint64{0, 1, 9, 10, 45, 50, greatest} {
				checkFind(t, k, item, canon.Find(fresh, item))
			}
			overwrite(form)
			l, index := canon.Segments(k)
			wantList, wantIndex := canon.Segments(fresh)
			if !slices.Equal(l, wantList) || !slices.Equal(index, wantIndex) {
				t.Errorf("what is behind the end of %v makes %v, %v of its segments", k, l, index)
			}
			overwriteList(l)
			overwriteIndex(index)
			if !same(memory, before) {
				t.Fatalf("a function, or a change of its result, makes %v of %v", memory, before)
			}
		}
	}
}

// Rule 4: the same for the arguments of Build, whether it succeeds or not.
func TestArgumentsOfBuildStay(t *testing.T) {
	for _, make := range []func() api.Knowledge{overlaid, ascending, sample, crossing} {
		k := make()
		vectors := vectorsOf(k)
		l, index := canon.Segments(k)
		before, list, indices := cloneVectors(vectors), slices.Clone(l), slices.Clone(index)
		for count := range len(vectors) + 1 {
			for segments := range len(l) + 1 {
				want, wantErr := buildOf(cloneVectors(before[:count]), slices.Clone(list[:segments]), slices.Clone(indices[:segments]))
				checkBuild(t, vectors[:count], l[:segments], index[:segments], want, wantErr)
				got, _ := canon.Build(vectors[:count], l[:segments], index[:segments])
				overwrite(got)
				if !slices.EqualFunc(vectors, before, sameVector) || !slices.Equal(l, list) || !slices.Equal(index, indices) {
					t.Fatalf("Build, or a change of its result, makes %v, %v, %v of %v, %v, %v", vectors, l, index, before, list, indices)
				}
			}
		}
	}
}

// Each number of the arguments and of the result of Build is changed alone.
func TestP13_4SharesNoMemory(t *testing.T) {
	k := overlaid()
	want := clone(k)
	vectors := vectorsOf(k)
	l, index := canon.Segments(k)
	build := func() api.Knowledge {
		got, err := canon.Build(vectors, l, index)
		if err != nil || !same(got, want) {
			t.Fatalf("Build(%v, %v, %v) = %v, %v", vectors, l, index, got, err)
		}
		return got
	}
	places := ofList(l)
	for _, v := range vectors {
		places = append(places, ofVector(v)...)
	}
	for _, place := range places {
		got := build()
		*place += 1000
		if !same(got, want) {
			t.Errorf("a change of an argument makes %v of a result that was %v", got, want)
		}
		*place -= 1000
	}
	for i := range vectors {
		got := build()
		before := vectors[i]
		vectors[i] = api.Vector{of(90, 90)}
		if !same(got, want) {
			t.Errorf("another vector %d makes %v of a result that was %v", i, got, want)
		}
		vectors[i] = before
	}
	for i := range fields(want) {
		got := build()
		*fields(got)[i] += 1000
		build()
		*fields(got)[i] -= 1000
	}
	first := build()
	overwrite(build())
	if !same(first, want) {
		t.Errorf("a change of another result makes %v of a result that was %v", first, want)
	}
}

// Canonical knowledge is copied, too.
func TestP13_2SharesNoMemory(t *testing.T) {
	k := overlaid()
	want := clone(k)
	for i := range fields(k) {
		got := canon.Canon(k)
		*fields(k)[i] += 1000
		if !same(got, want) {
			t.Errorf("a change of the number %d makes %v of a result that was %v", i, got, want)
		}
		*fields(k)[i] -= 1000
		*fields(got)[i] += 1000
		if !same(k, want) {
			t.Errorf("a change of the number %d of a result makes %v of %v", i, k, want)
		}
	}
}

// P2 and rule 4: a result stays as it is when the argument or another result changes.
func TestP2Independent(t *testing.T) {
	for _, make := range []func() api.Knowledge{sample, crossing, overlaid, ascending} {
		k := make()
		form := canon.Canon(k)
		l, index := canon.Segments(k)
		want, wantList, wantIndex := clone(form), slices.Clone(l), slices.Clone(index)
		overwrite(canon.Canon(k))
		others, indices := canon.Segments(k)
		overwriteList(others)
		overwriteIndex(indices)
		overwrite(k)
		if !same(form, want) || !slices.Equal(l, wantList) || !slices.Equal(index, wantIndex) {
			t.Errorf("a change of an argument or of another result makes the results %v, %v and %v", form, l, index)
		}
		checkCanon(t, make(), form)
	}
}

// No two parts of a result share memory, even if they do so in the arguments.
func TestPartsOfResults(t *testing.T) {
	built := func(k api.Knowledge) func() api.Knowledge {
		vectors := vectorsOf(k)
		l, index := canon.Segments(k)
		return func() api.Knowledge {
			got, err := canon.Build(vectors, l, index)
			if err != nil {
				t.Fatal(err)
			}
			return got
		}
	}
	results := []func() api.Knowledge{
		func() api.Knowledge { return canon.Canon(sample()) },
		func() api.Knowledge { return canon.Canon(crossing()) },
		func() api.Knowledge { return canon.Canon(overlaid()) },
		built(overlaid()),
		built(ascending()),
	}
	for number, result := range results {
		want := result()
		if len(fields(want)) < 20 {
			t.Errorf("the result %d is short: %v", number, want)
		}
		for i := range fields(want) {
			got, left := result(), clone(want)
			*fields(got)[i] += 1000
			*fields(left)[i] += 1000
			if !same(got, left) {
				t.Errorf("a change of the number %d of the result %d makes %v of it", i, number, got)
			}
		}
		got := result()
		for i := range got {
			_ = append(got[i].Items, iv(99, 99))
			for j := range got[i].Vector {
				_ = append(got[i].Vector[j].Holes, iv(98, 98))
			}
			_ = append(got[i].Vector, of(97, 97))
		}
		if !same(got, want) {
			t.Errorf("what is appended to parts of the result %d makes %v of it", number, got)
		}
	}
}

// The vectors of canonical forms are canonical by the checks of their own layers, and the items are correct lists.
func TestP13_2Parts(t *testing.T) {
	random := rand.New(rand.NewSource(135))
	for round := range 200 {
		form := canon.Canon(randomKnowledge(random, round%9))
		for i, f := range form {
			if len(f.Items) == 0 || ranges.Check(f.Items) != nil || len(f.Vector) == 0 || !vector.Canonical(f.Vector) {
				t.Errorf("the fragment %d of the canonical form %v", i, form)
			}
			if i > 0 && vector.Compare(form[i-1].Vector, f.Vector) >= 0 {
				t.Errorf("the vector %d of the canonical form %v is not greater", i, form)
			}
			if slices.ContainsFunc(form[:i], func(g api.Fragment) bool { return meets(f, g) }) {
				t.Errorf("an item of the fragment %d of the canonical form %v is in an earlier one", i, form)
			}
		}
	}
}

// Rule 7: the results are the same in each call.
func TestDeterminism(t *testing.T) {
	random := rand.New(rand.NewSource(136))
	for range 10 {
		k := randomKnowledge(random, 12)
		form := canon.Canon(k)
		l, index := canon.Segments(form)
		for range 10 {
			if !same(canon.Canon(k), form) {
				t.Errorf("the canonical form of %v is not always the same", k)
			}
			checkSegments(t, form, l, index)
			checkCheck(t, k, checkOf(k))
		}
	}
}

// Rule 6: the functions may be called concurrently, also with the same knowledge.
func TestConcurrent(t *testing.T) {
	k := crossing()
	before, form := clone(k), canon.Canon(k)
	l, index := canon.Segments(form)
	var wait sync.WaitGroup
	for range 8 {
		wait.Go(func() {
			checkCheck(t, k, checkOf(k))
			checkCanon(t, k, form)
			checkSegments(t, form, l, index)
			for i, s := range l {
				checkFind(t, form, s.Lo, index[i])
			}
		})
	}
	wait.Wait()
	if !same(k, before) {
		t.Errorf("%v is %v", before, k)
	}
}
