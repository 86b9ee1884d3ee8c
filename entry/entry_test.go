package entry_test

import (
	"math"
	"math/rand"
	"slices"
	"sync"
	"testing"

	"kenning/api"
	"kenning/entry"
	"kenning/fault"
	"kenning/ranges"
	"kenning/setops"
)

const greatest = math.MaxUint64

func iv(lo, hi uint64) api.Interval { return api.Interval{Lo: lo, Hi: hi} }

// of returns an entry of the replica 7.
func of(last uint64, holes ...api.Interval) api.Entry {
	return api.Entry{Replica: 7, Max: last, Holes: holes}
}

// all is the list of all numbers.
var all = api.Ranges{iv(0, greatest)}

// line is some cells in ascending order from 0 on, each one directly behind the one before it. A set of cells is a number with a bit for each.
type line []api.Interval

// small returns the line of the numbers up to one less than count.
func small(count uint64) line {
	var l line
	for x := range count {
		l = append(l, iv(x, x))
	}
	return l
}

// whole returns a line of all numbers: some cells of one number at both ends, and two halves of the numbers between them.
func whole() line {
	return line{
		iv(0, 0), iv(1, 1), iv(2, 2), iv(3, 1<<63-1), iv(1<<63, greatest-3),
		iv(greatest-2, greatest-2), iv(greatest-1, greatest-1), iv(greatest, greatest),
	}
}

// list returns the list of a set: one interval for each run of cells.
func (l line) list(set uint) api.Ranges {
	var r api.Ranges
	for i, cell := range l {
		switch {
		case set>>i&1 == 0:
		case i > 0 && set>>(i-1)&1 == 1:
			r[len(r)-1].Hi = cell.Hi
		default:
			r = append(r, cell)
		}
	}
	return r
}

// correct is a correct entry with the list of the counters that are known by it.
type correct struct {
	api.Entry
	known api.Ranges
}

// entries returns all correct entries of a line: for each cell at whose end is Max, those with all sets of holes.
func (l line) entries() []correct {
	var r []correct
	for last, cell := range l {
		up := uint(1)<<(last+1) - 1
		for holes := range up + 1 {
			e := api.Entry{Replica: uint64(last), Max: cell.Hi, Holes: l.list(holes)}
			r = append(r, correct{e, l.list(up &^ holes)})
		}
	}
	return r
}

// corrects returns all correct entries of the lines that the tests go through.
func corrects() []correct { return append(small(7).entries(), whole().entries()...) }

// holds reports whether one of the intervals has a number.
func holds(l api.Ranges, x uint64) bool {
	return slices.ContainsFunc(l, func(s api.Interval) bool { return s.Lo <= x && x <= s.Hi })
}

// same compares two entries field by field.
func same(a, b api.Entry) bool {
	return a.Replica == b.Replica && a.Max == b.Max && slices.Equal(a.Holes, b.Holes)
}

// isZero reports whether an entry has only zero values.
func isZero(e api.Entry) bool { return e.Replica == 0 && e.Max == 0 && len(e.Holes) == 0 }

// clone returns a copy of an entry.
func clone(e api.Entry) api.Entry {
	e.Holes = slices.Clone(e.Holes)
	return e
}

// checkError checks that an error is the fault that is wanted, or nil for a fault whose code is api.OK.
func checkError(t *testing.T, e api.Entry, err error, want api.Fault) {
	t.Helper()
	if want.Code == api.OK {
		if err != nil {
			t.Errorf("Check(%v) = %v at %d", e, err, fault.At(err))
		}
		return
	}
	if f, ok := err.(api.Fault); !ok || f != want {
		t.Errorf("Check(%v) = %#v, want %#v", e, err, want)
	}
}

// model returns what is wrong with an entry, step by step as the document says it.
func model(e api.Entry) api.Fault {
	for i, hole := range e.Holes {
		if hole.Lo > hole.Hi {
			return api.Fault{Code: api.ErrInverted, At: i}
		}
		// Lo may be 0, and Hi may be the greatest number, so a difference tells whether there is a number between them.
		if i > 0 && (hole.Lo <= e.Holes[i-1].Hi || hole.Lo-e.Holes[i-1].Hi < 2) {
			return api.Fault{Code: api.ErrOrder, At: i}
		}
	}
	for i, hole := range e.Holes {
		if hole.Hi > e.Max {
			return api.Fault{Code: api.ErrHole, At: i}
		}
	}
	return api.Fault{}
}

// anyEntries calls a function with all entries whose Max and whose holes, which are not many, are made of some numbers: correct ones and others.
func anyEntries(numbers []uint64, most int, visit func(e api.Entry)) {
	var intervals api.Ranges
	for _, lo := range numbers {
		for _, hi := range numbers {
			intervals = append(intervals, iv(lo, hi))
		}
	}
	lists := []api.Ranges{{}}
	for from := 0; most > 0; most-- {
		size := len(lists)
		for _, l := range lists[from:size] {
			for _, s := range intervals {
				lists = append(lists, append(slices.Clip(l), s))
			}
		}
		from = size
	}
	for _, last := range numbers {
		for _, l := range lists {
			visit(api.Entry{Replica: 7, Max: last, Holes: l})
		}
	}
}

func TestP7_1Check(t *testing.T) {
	none := api.Fault{}
	inverted := func(at int) api.Fault { return api.Fault{Code: api.ErrInverted, At: at} }
	order := func(at int) api.Fault { return api.Fault{Code: api.ErrOrder, At: at} }
	hole := func(at int) api.Fault { return api.Fault{Code: api.ErrHole, At: at} }
	for _, c := range []struct {
		e    api.Entry
		want api.Fault
	}{
		// Without holes.
		{api.Entry{}, none},
		{api.Entry{Holes: api.Ranges{}}, none},
		{of(5), none},
		{of(greatest), none},
		{api.Entry{Replica: greatest, Max: greatest}, none},
		// A hole that ends before Max, at it, and behind it.
		{of(5, iv(2, 4)), none},
		{of(5, iv(2, 5)), none},
		{of(5, iv(2, 6)), hole(0)},
		{of(5, iv(0, 5)), none},
		{of(5, iv(5, 5)), none},
		{of(5, iv(5, 6)), hole(0)},
		{of(5, iv(6, 6)), hole(0)},
		{of(5, iv(7, 9)), hole(0)},
		{of(5, iv(0, greatest)), hole(0)},
		{of(5, iv(greatest, greatest)), hole(0)},
		// The least and the greatest Max.
		{of(0, iv(0, 0)), none},
		{of(0, iv(0, 1)), hole(0)},
		{of(0, iv(1, 1)), hole(0)},
		{of(greatest, iv(0, greatest)), none},
		{of(greatest, iv(greatest, greatest)), none},
		{of(greatest, iv(0, 0), iv(2, greatest)), none},
		{of(greatest-1, iv(greatest-1, greatest-1)), none},
		{of(greatest-1, iv(greatest-1, greatest)), hole(0)},
		{of(greatest-1, iv(greatest, greatest)), hole(0)},
		// Several holes: the first one beyond Max counts.
		{of(9, iv(0, 1), iv(3, 3), iv(5, 9)), none},
		{of(9, iv(0, 1), iv(3, 3), iv(5, 10)), hole(2)},
		{of(9, iv(0, 1), iv(3, 10), iv(12, 13)), hole(1)},
		{of(9, iv(0, 1), iv(10, 10), iv(12, 13)), hole(1)},
		{of(9, iv(10, 10), iv(12, 12), iv(14, 14)), hole(0)},
		// Holes that are not a correct list.
		{of(9, iv(3, 2)), inverted(0)},
		{of(9, iv(1, 2), iv(5, 4)), inverted(1)},
		{of(9, iv(1, 2), iv(3, 4)), order(1)},
		{of(9, iv(1, 2), iv(2, 4)), order(1)},
		{of(9, iv(1, 2), iv(1, 2)), order(1)},
		{of(9, iv(4, 5), iv(1, 2)), order(1)},
		{of(9, iv(1, 1), iv(3, 3), iv(4, 4)), order(2)},
		{of(9, iv(3, 3), iv(2, 1)), inverted(1)},
		{of(greatest, iv(1, greatest), iv(0, 0)), order(1)},
		// They come first, even behind a hole that is beyond Max.
		{of(3, iv(9, 8)), inverted(0)},
		{of(3, iv(5, 4), iv(8, 9)), inverted(0)},
		{of(3, iv(8, 9), iv(2, 1)), inverted(1)},
		{of(3, iv(8, 9), iv(1, 2)), order(1)},
		{of(3, iv(8, 9), iv(10, 10)), order(1)},
		{of(3, iv(1, 1), iv(8, 9), iv(11, 11), iv(12, 12)), order(3)},
		{of(3, iv(1, 1), iv(8, 9), iv(11, 11), iv(14, 13)), inverted(3)},
		{of(0, iv(greatest, greatest), iv(0, 0)), order(1)},
	} {
		checkError(t, c.e, entry.Check(c.e), c.want)
	}
}

// Many entries that are correct, and many more that are not.
func TestP7_1AllEntries(t *testing.T) {
	counts := map[api.Errno]int{}
	visit := func(e api.Entry) {
		want := model(e)
		counts[want.Code]++
		checkError(t, e, entry.Check(e), want)
		list := ranges.Check(e.Holes)
		if got := entry.Check(e); list != nil && (fault.Code(got) != fault.Code(list) || fault.At(got) != fault.At(list)) {
			t.Errorf("Check(%v) = %#v, but that of its holes is %#v", e, got, list)
		}
	}
	anyEntries([]uint64{0, 1, 2, 3, 4, 5}, 2, visit)
	anyEntries([]uint64{0, 1, greatest - 1, greatest}, 3, visit)
	for _, c := range corrects() {
		visit(c.Entry)
	}
	for _, code := range []api.Errno{api.OK, api.ErrInverted, api.ErrOrder, api.ErrHole} {
		if counts[code] < 50 {
			t.Errorf("only %d entries have the code %d", counts[code], code)
		}
	}
}

func TestP7_2Has(t *testing.T) {
	for _, c := range []struct {
		e       api.Entry
		known   []uint64
		unknown []uint64
	}{
		{api.Entry{}, []uint64{0}, []uint64{1, 2, 1 << 63, greatest}},
		{of(5), []uint64{0, 1, 4, 5}, []uint64{6, 7, 1 << 63, greatest}},
		{of(5, iv(2, 3)), []uint64{0, 1, 4, 5}, []uint64{2, 3, 6, 7, greatest}},
		{of(5, iv(0, 1), iv(5, 5)), []uint64{2, 3, 4}, []uint64{0, 1, 5, 6, 7, greatest}},
		{of(5, iv(4, 5)), []uint64{0, 3}, []uint64{4, 5, 6, greatest}},
		{of(5, iv(0, 5)), nil, []uint64{0, 1, 4, 5, 6, greatest}},
		{of(0, iv(0, 0)), nil, []uint64{0, 1, greatest}},
		{of(greatest), []uint64{0, 1, 1 << 63, greatest - 1, greatest}, nil},
		{of(greatest, iv(greatest, greatest)), []uint64{0, 1 << 63, greatest - 1}, []uint64{greatest}},
		{of(greatest, iv(0, greatest)), nil, []uint64{0, 1, 1 << 63, greatest}},
		{of(greatest, iv(0, greatest-1)), []uint64{greatest}, []uint64{0, 1, greatest - 1}},
		{of(greatest-1, iv(1, 1), iv(3, greatest-2)), []uint64{0, 2, greatest - 1}, []uint64{1, 3, 1 << 63, greatest - 2, greatest}},
	} {
		for _, x := range c.known {
			if !entry.Has(c.e, x) {
				t.Errorf("Has(%v, %d) = false", c.e, x)
			}
		}
		for _, x := range c.unknown {
			if entry.Has(c.e, x) {
				t.Errorf("Has(%v, %d) = true", c.e, x)
			}
		}
	}
}

// checkList checks that a list of counters is correct, and that it is the one that is wanted.
func checkList(t *testing.T, e api.Entry, got, want api.Ranges) {
	t.Helper()
	if err := ranges.Check(got); err != nil {
		t.Errorf("Known(%v) = %v, which is not correct: %v", e, got, err)
	}
	if !slices.Equal(got, want) {
		t.Errorf("Known(%v) = %v, want %v", e, got, want)
	}
}

func TestP7_2Known(t *testing.T) {
	for _, c := range []struct {
		e    api.Entry
		want api.Ranges
	}{
		{api.Entry{}, api.Ranges{iv(0, 0)}},
		{api.Entry{Holes: api.Ranges{}}, api.Ranges{iv(0, 0)}},
		{of(5), api.Ranges{iv(0, 5)}},
		{of(greatest), all},
		{of(8, iv(4, 5)), api.Ranges{iv(0, 3), iv(6, 8)}},
		{of(8, iv(4, 8)), api.Ranges{iv(0, 3)}},
		{of(8, iv(8, 8)), api.Ranges{iv(0, 7)}},
		{of(8, iv(0, 3)), api.Ranges{iv(4, 8)}},
		{of(8, iv(0, 7)), api.Ranges{iv(8, 8)}},
		{of(8, iv(0, 0), iv(2, 2), iv(4, 4), iv(6, 6), iv(8, 8)), api.Ranges{iv(1, 1), iv(3, 3), iv(5, 5), iv(7, 7)}},
		{of(8, iv(0, 8)), nil},
		{of(0, iv(0, 0)), nil},
		{of(greatest, iv(0, greatest)), nil},
		{of(greatest, iv(greatest, greatest)), api.Ranges{iv(0, greatest-1)}},
		{of(greatest, iv(0, greatest-1)), api.Ranges{iv(greatest, greatest)}},
		{of(greatest, iv(1, greatest-1)), api.Ranges{iv(0, 0), iv(greatest, greatest)}},
	} {
		checkList(t, c.e, entry.Known(c.e), c.want)
	}
}

// around are numbers at, in front of and behind the ends of the cells of all lines.
func around() []uint64 {
	var near []uint64
	for x := range uint64(10) {
		near = append(near, x, greatest-x, 1<<63-5+x)
	}
	return near
}

func TestP7_2AllEntries(t *testing.T) {
	near := around()
	for _, c := range corrects() {
		checkList(t, c.Entry, entry.Known(c.Entry), c.known)
		for _, x := range near {
			if got, want := entry.Has(c.Entry, x), holds(c.known, x); got != want {
				t.Errorf("Has(%v, %d) = %t", c.Entry, x, got)
			}
			if got, want := entry.Has(c.Entry, x), x <= c.Max && !holds(c.Holes, x); got != want {
				t.Errorf("Has(%v, %d) = %t", c.Entry, x, got)
			}
		}
	}
}

// checkOf checks the entry of a list.
func checkOf(t *testing.T, replica uint64, known api.Ranges, want api.Entry, wantOK bool) {
	t.Helper()
	if got, ok := entry.Of(replica, known); !same(got, want) || ok != wantOK {
		t.Errorf("Of(%d, %v) = %v, %t, want %v, %t", replica, known, got, ok, want, wantOK)
	}
}

func TestP7_3Of(t *testing.T) {
	checkOf(t, 7, nil, api.Entry{}, false)
	checkOf(t, 7, api.Ranges{}, api.Entry{}, false)
	checkOf(t, greatest, nil, api.Entry{}, false)
	checkOf(t, 0, api.Ranges{iv(0, 0)}, api.Entry{}, true)
	checkOf(t, greatest, api.Ranges{iv(0, 4)}, api.Entry{Replica: greatest, Max: 4}, true)
	for _, c := range []struct {
		known api.Ranges
		want  api.Entry
	}{
		{api.Ranges{iv(0, 0)}, of(0)},
		{api.Ranges{iv(0, 5)}, of(5)},
		{api.Ranges{iv(0, 3), iv(6, 8)}, of(8, iv(4, 5))},
		{api.Ranges{iv(0, 3), iv(5, 5), iv(7, 8)}, of(8, iv(4, 4), iv(6, 6))},
		// Lists that do not begin at 0.
		{api.Ranges{iv(1, 1)}, of(1, iv(0, 0))},
		{api.Ranges{iv(4, 8)}, of(8, iv(0, 3))},
		{api.Ranges{iv(1, 1), iv(3, 3), iv(5, 5)}, of(5, iv(0, 0), iv(2, 2), iv(4, 4))},
		{api.Ranges{iv(1<<63, 1<<63)}, of(1<<63, iv(0, 1<<63-1))},
		// Lists that end at the greatest number, and before it.
		{all, of(greatest)},
		{api.Ranges{iv(greatest, greatest)}, of(greatest, iv(0, greatest-1))},
		{api.Ranges{iv(1, greatest)}, of(greatest, iv(0, 0))},
		{api.Ranges{iv(0, 0), iv(greatest, greatest)}, of(greatest, iv(1, greatest-1))},
		{api.Ranges{iv(0, greatest-2), iv(greatest, greatest)}, of(greatest, iv(greatest-1, greatest-1))},
		{api.Ranges{iv(0, greatest-1)}, of(greatest - 1)},
	} {
		checkOf(t, 7, c.known, c.want, true)
	}
}

// The entries of all sets: exactly their numbers are known, and the greatest one is Max.
func TestP7_3AllSets(t *testing.T) {
	for _, cells := range []line{small(8), whole()} {
		for set := range uint(1) << len(cells) {
			known := cells.list(set)
			got, ok := entry.Of(uint64(set), known)
			if set == 0 {
				if ok || !isZero(got) {
					t.Errorf("Of(%d, %v) = %v, %t", set, known, got, ok)
				}
				continue
			}
			if !ok || got.Replica != uint64(set) || got.Max != known[len(known)-1].Hi || model(got) != (api.Fault{}) {
				t.Errorf("Of(%d, %v) = %v, %t", set, known, got, ok)
			}
			if !slices.Equal(setops.Minus(api.Ranges{iv(0, got.Max)}, got.Holes), known) {
				t.Errorf("Of(%d, %v) = %v, by which others are known", set, known, got)
			}
			if !entry.Canonical(got) {
				t.Errorf("Of(%d, %v) = %v is not canonical", set, known, got)
			}
		}
	}
}

func TestP7_4Canonical(t *testing.T) {
	for _, c := range []struct {
		e    api.Entry
		want bool
	}{
		{api.Entry{}, true},
		{api.Entry{Holes: api.Ranges{}}, true},
		{of(5), true},
		{of(greatest), true},
		{of(8, iv(4, 5)), true},
		{of(8, iv(0, 7)), true},
		{of(8, iv(0, 0), iv(2, 2), iv(7, 7)), true},
		{of(greatest, iv(0, greatest-1)), true},
		// Max is in the last hole.
		{of(5, iv(5, 5)), false},
		{of(5, iv(4, 5)), false},
		{of(5, iv(0, 5)), false},
		{of(5, iv(0, 1), iv(3, 5)), false},
		{of(0, iv(0, 0)), false},
		{of(greatest, iv(greatest, greatest)), false},
		{of(greatest, iv(0, greatest)), false},
		// Entries that are not correct, although no hole has Max.
		{of(8, iv(3, 2)), false},
		{of(8, iv(1, 2), iv(5, 4)), false},
		{of(8, iv(1, 2), iv(3, 4)), false},
		{of(8, iv(4, 5), iv(1, 2)), false},
		{of(8, iv(1, 3), iv(2, 4)), false},
		{of(8, iv(9, 9)), false},
		{of(8, iv(1, 2), iv(10, 12)), false},
		{of(0, iv(1, 1)), false},
		{of(greatest-1, iv(greatest, greatest)), false},
		// Entries that are not correct, with Max in a hole.
		{of(8, iv(7, 9)), false},
		{of(8, iv(0, greatest)), false},
		{of(8, iv(7, 8), iv(1, 2)), false},
	} {
		if got := entry.Canonical(c.e); got != c.want {
			t.Errorf("Canonical(%v) = %t", c.e, got)
		}
	}
}

func TestP7_4AllEntries(t *testing.T) {
	counts := map[bool]int{}
	visit := func(e api.Entry) {
		want := model(e) == (api.Fault{}) && !holds(e.Holes, e.Max)
		counts[want]++
		if got := entry.Canonical(e); got != want {
			t.Errorf("Canonical(%v) = %t", e, got)
		}
	}
	anyEntries([]uint64{0, 1, 2, 3, 4, 5}, 2, visit)
	anyEntries([]uint64{0, 1, greatest - 1, greatest}, 3, visit)
	for _, c := range corrects() {
		visit(c.Entry)
	}
	if counts[true] < 50 || counts[false] < 50 {
		t.Errorf("%d entries are canonical, %d are not", counts[true], counts[false])
	}
}

// checkCanon checks the canonical form of an entry.
func checkCanon(t *testing.T, e, want api.Entry, wantOK bool) {
	t.Helper()
	if got, ok := entry.Canon(e); !same(got, want) || ok != wantOK {
		t.Errorf("Canon(%v) = %v, %t, want %v, %t", e, got, ok, want, wantOK)
	}
}

func TestP7_4Canon(t *testing.T) {
	for _, c := range []struct{ e, want api.Entry }{
		// Entries that are canonical.
		{api.Entry{}, api.Entry{}},
		{api.Entry{Replica: greatest, Max: 3, Holes: api.Ranges{}}, api.Entry{Replica: greatest, Max: 3}},
		{of(5), of(5)},
		{of(greatest), of(greatest)},
		{of(8, iv(4, 5)), of(8, iv(4, 5))},
		{of(8, iv(0, 7)), of(8, iv(0, 7))},
		{of(8, iv(0, 0), iv(2, 4), iv(6, 7)), of(8, iv(0, 0), iv(2, 4), iv(6, 7))},
		// The last hole ends at Max.
		{of(5, iv(4, 5)), of(3)},
		{of(5, iv(5, 5)), of(4)},
		{of(5, iv(1, 5)), of(0)},
		{of(9, iv(1, 2), iv(7, 9)), of(6, iv(1, 2))},
		{of(9, iv(0, 2), iv(9, 9)), of(8, iv(0, 2))},
		// Between it and the one in front of it is exactly one number.
		{of(9, iv(5, 7), iv(9, 9)), of(8, iv(5, 7))},
		{of(9, iv(0, 7), iv(9, 9)), of(8, iv(0, 7))},
		{of(9, iv(1, 1), iv(3, 3), iv(5, 5), iv(7, 7), iv(9, 9)), of(8, iv(1, 1), iv(3, 3), iv(5, 5), iv(7, 7))},
		{of(8, iv(0, 0), iv(2, 2), iv(4, 4), iv(6, 6), iv(8, 8)), of(7, iv(0, 0), iv(2, 2), iv(4, 4), iv(6, 6))},
		{of(2, iv(0, 0), iv(2, 2)), of(1, iv(0, 0))},
		// The greatest numbers.
		{of(greatest, iv(greatest, greatest)), of(greatest - 1)},
		{of(greatest, iv(1, greatest)), of(0)},
		{of(greatest, iv(0, 0), iv(2, greatest)), of(1, iv(0, 0))},
		{of(greatest, iv(0, greatest-2), iv(greatest, greatest)), of(greatest-1, iv(0, greatest-2))},
		{of(greatest, iv(0, greatest-1)), of(greatest, iv(0, greatest-1))},
	} {
		checkCanon(t, c.e, c.want, true)
	}
	// Nothing is known.
	for _, e := range []api.Entry{of(0, iv(0, 0)), of(5, iv(0, 5)), of(greatest, iv(0, greatest)), of(greatest-1, iv(0, greatest-1))} {
		checkCanon(t, e, api.Entry{}, false)
	}
}

func TestP7_4CanonOfAllEntries(t *testing.T) {
	for _, c := range corrects() {
		got, ok := entry.Canon(c.Entry)
		if ok != (len(c.known) > 0) {
			t.Errorf("Canon(%v) = %v, %t", c.Entry, got, ok)
		}
		if !ok {
			if !isZero(got) {
				t.Errorf("Canon(%v) = %v without a counter", c.Entry, got)
			}
			continue
		}
		if got.Replica != c.Replica || model(got) != (api.Fault{}) || holds(got.Holes, got.Max) {
			t.Errorf("Canon(%v) = %v, which is not canonical", c.Entry, got)
		}
		checkList(t, got, entry.Known(got), c.known)
	}
}

func TestP7_5(t *testing.T) {
	some := of(9, iv(1, 2), iv(5, 6))
	for _, c := range []struct {
		name string
		a, b api.Entry
		want bool
	}{
		{"zero entries", api.Entry{}, api.Entry{}, true},
		{"no holes, nil or not", api.Entry{Max: 3}, api.Entry{Max: 3, Holes: api.Ranges{}}, true},
		{"equal", some, clone(some), true},
		{"one in the same memory", some, some, true},
		{"the greatest numbers", api.Entry{Replica: greatest, Max: greatest, Holes: all}, api.Entry{Replica: greatest, Max: greatest, Holes: slices.Clone(all)}, true},
		{"another Replica", some, api.Entry{Replica: 8, Max: 9, Holes: some.Holes}, false},
		{"another Max", some, of(10, iv(1, 2), iv(5, 6)), false},
		{"Replica and Max exchanged", api.Entry{Replica: 3, Max: 4}, api.Entry{Replica: 4, Max: 3}, false},
		{"another Lo", some, of(9, iv(0, 2), iv(5, 6)), false},
		{"another Hi", some, of(9, iv(1, 3), iv(5, 6)), false},
		{"another Lo of the last hole", some, of(9, iv(1, 2), iv(4, 6)), false},
		{"another Hi of the last hole", some, of(9, iv(1, 2), iv(5, 7)), false},
		{"a hole less", some, of(9, iv(1, 2)), false},
		{"no hole", some, of(9), false},
		{"a hole more", some, of(9, iv(1, 2), iv(5, 6), iv(8, 8)), false},
		{"a hole in front", some, of(9, iv(0, 0), iv(1, 2), iv(5, 6)), false},
		// The same counters are known, but the entries are not the same.
		{"the same counters", of(5, iv(4, 5)), of(3), false},
		{"the same counters, none", of(5, iv(0, 5)), of(3, iv(0, 3)), false},
		// Entries that are not correct are compared in the same way.
		{"another order", some, of(9, iv(5, 6), iv(1, 2)), false},
		{"one hole cut in two", of(9, iv(1, 4)), of(9, iv(1, 2), iv(3, 4)), false},
		{"equal, but not correct", of(2, iv(5, 4), iv(1, 9)), of(2, iv(5, 4), iv(1, 9)), true},
		{"inverted", of(9, iv(1, 2)), of(9, iv(2, 1)), false},
	} {
		if got := entry.Same(c.a, c.b); got != c.want {
			t.Errorf("%s: Same(%v, %v) = %t", c.name, c.a, c.b, got)
		}
		if got := entry.Same(c.b, c.a); got != c.want {
			t.Errorf("%s: Same(%v, %v) = %t", c.name, c.b, c.a, got)
		}
	}
}

// Of many entries that are all different, each one is the same only as itself.
func TestP7_5AllEntries(t *testing.T) {
	var entries []api.Entry
	anyEntries([]uint64{0, 1, greatest}, 2, func(e api.Entry) {
		other := clone(e)
		other.Replica++
		entries = append(entries, e, other)
	})
	for i, a := range entries {
		for j, b := range entries {
			if got := entry.Same(a, clone(b)); got != (i == j) {
				t.Errorf("Same(%v, %v) = %t", a, b, got)
			}
		}
	}
}

// Each number of a small range on its own.
func TestP7_6EachNumber(t *testing.T) {
	const count = 9
	for _, c := range small(count).entries() {
		var known api.Ranges
		for x := range uint64(count + 3) {
			in := x <= c.Max && !holds(c.Holes, x)
			if got := entry.Has(c.Entry, x); got != in {
				t.Errorf("Has(%v, %d) = %t", c.Entry, x, got)
			}
			if last := len(known) - 1; in && last >= 0 && known[last].Hi == x-1 {
				known[last].Hi = x
			} else if in {
				known = append(known, iv(x, x))
			}
		}
		checkList(t, c.Entry, entry.Known(c.Entry), known)
		canonical := len(known) > 0 && known[len(known)-1].Hi == c.Max
		if got := entry.Canonical(c.Entry); got != canonical {
			t.Errorf("Canonical(%v) = %t", c.Entry, got)
		}
		form, ok := entry.Canon(c.Entry)
		checkOf(t, c.Replica, known, form, ok)
		if !ok {
			continue
		}
		for x := range uint64(count + 3) {
			if entry.Has(form, x) != holds(known, x) {
				t.Errorf("Canon(%v) = %v differs at %d", c.Entry, form, x)
			}
		}
		if canonical != same(form, c.Entry) {
			t.Errorf("Canon(%v) = %v", c.Entry, form)
		}
	}
}

func TestP7_6Inverse(t *testing.T) {
	for _, c := range corrects() {
		form, ok := entry.Canon(c.Entry)
		back, okBack := entry.Of(c.Replica, entry.Known(c.Entry))
		if ok != okBack || !same(form, back) {
			t.Errorf("Of(Known(%v)) = %v, %t, but Canon = %v, %t", c.Entry, back, okBack, form, ok)
		}
		if !entry.Canonical(c.Entry) {
			continue
		}
		if !same(back, c.Entry) || !okBack {
			t.Errorf("Of(Known(%v)) = %v, %t", c.Entry, back, okBack)
		}
		if !same(form, c.Entry) || !ok {
			t.Errorf("Canon(%v) = %v, %t, though it is canonical", c.Entry, form, ok)
		}
	}
}

// Of the correct entries by which the same counters are known, exactly one of a replica is canonical.
func TestP7_6OneForm(t *testing.T) {
	for _, cells := range []line{small(7), whole()} {
		forms := map[string][]api.Entry{}
		for _, c := range cells.entries() {
			c.Replica = 7
			if entry.Canonical(c.Entry) {
				forms[ranges.Text(c.known)] = append(forms[ranges.Text(c.known)], c.Entry)
			}
		}
		for known, entries := range forms {
			if len(entries) != 1 {
				t.Errorf("%s is known by %v", known, entries)
			}
		}
		if want := 1<<len(cells) - 1; len(forms) != want {
			t.Errorf("%d sets have a canonical entry, want %d", len(forms), want)
		}
	}
}

// Entries with many holes.
func TestP7_6LongEntries(t *testing.T) {
	random := rand.New(rand.NewSource(7))
	for range 30 {
		e := api.Entry{Replica: random.Uint64()}
		var known api.Ranges
		for next := uint64(random.Intn(2)); len(e.Holes) < 400; {
			hole := iv(next, next+uint64(random.Intn(4)))
			if hole.Lo > 0 {
				known = append(known, iv(e.Max, hole.Lo-1))
			}
			e.Holes = append(e.Holes, hole)
			e.Max = hole.Hi + 1
			next = e.Max + 1 + uint64(random.Intn(4))
		}
		trimmed := clone(e)
		trimmed.Holes = trimmed.Holes[:len(e.Holes)-1]
		trimmed.Max = e.Holes[len(e.Holes)-1].Lo - 1
		// Max is behind the last hole first, and then at its end.
		full := append(slices.Clip(known), iv(e.Max, e.Max))
		checkError(t, e, entry.Check(e), api.Fault{})
		checkList(t, e, entry.Known(e), full)
		checkCanon(t, e, e, true)
		checkOf(t, e.Replica, full, e, true)
		e.Max--
		checkError(t, e, entry.Check(e), api.Fault{})
		checkList(t, e, entry.Known(e), known)
		checkCanon(t, e, trimmed, true)
		checkOf(t, e.Replica, known, trimmed, true)
		e.Max--
		checkError(t, e, entry.Check(e), model(e))
	}
}

func TestExamplesOfTheChapter(t *testing.T) {
	got, ok := entry.Of(7, api.Ranges{iv(0, 3), iv(6, 8)})
	if !same(got, of(8, iv(4, 5))) || !ok {
		t.Errorf("the entry is %v, %t", got, ok)
	}
	got, ok = entry.Canon(of(5, iv(4, 5)))
	if !same(got, of(3)) || !ok {
		t.Errorf("the canonical form is %v, %t", got, ok)
	}
}

// P1: no argument makes a function panic or run on, not even an entry or a list that is not correct.
func TestP1AllEntries(t *testing.T) {
	numbers := []uint64{0, 1, 2, greatest - 1, greatest}
	anyEntries(numbers, 2, func(e api.Entry) {
		entry.Check(e)
		entry.Known(e)
		entry.Canonical(e)
		entry.Canon(e)
		entry.Same(e, e)
		entry.Of(e.Max, e.Holes)
		for _, x := range numbers {
			entry.Has(e, x)
		}
	})
	// Holes that touch, and many that are the same.
	var holes api.Ranges
	for x := range uint64(2000) {
		holes = append(holes, iv(x/2, x/2))
	}
	e := api.Entry{Max: 999, Holes: holes}
	entry.Check(e)
	entry.Known(e)
	entry.Canon(e)
	entry.Of(7, holes)
}

// results are the functions with a list in their result: it is returned for a list of holes, which are also taken as counters.
func results() map[string]func(last uint64, l api.Ranges) api.Ranges {
	return map[string]func(last uint64, l api.Ranges) api.Ranges{
		"Known": func(last uint64, l api.Ranges) api.Ranges { return entry.Known(of(last, l...)) },
		"Canon": func(last uint64, l api.Ranges) api.Ranges {
			got, _ := entry.Canon(of(last, l...))
			return got.Holes
		},
		"Of": func(last uint64, l api.Ranges) api.Ranges {
			got, _ := entry.Of(last, l)
			return got.Holes
		},
	}
}

// Rule 4: no argument is changed, nothing behind its end is read or changed, and no result shares memory with it.
func TestArgumentsStay(t *testing.T) {
	memory := api.Ranges{iv(1, 4), iv(6, 6), iv(9, 12), iv(20, 29), iv(31, greatest)}
	before := slices.Clone(memory)
	for name, call := range results() {
		for size := 1; size <= len(memory); size++ {
			l, end := memory[:size], memory[size-1].Hi
			// The last hole is taken off for one Max, and not for the other one.
			for _, last := range []uint64{end, max(end, end+1)} {
				want := call(last, slices.Clip(slices.Clone(l)))
				got := call(last, l)
				if !slices.Equal(got, want) {
					t.Errorf("what is behind the end of %v makes %v of the result of %s, not %v", l, got, name, want)
				}
				whole := got[:cap(got)]
				for i := range whole {
					whole[i] = iv(77, 77)
				}
				e := of(last, l...)
				if entry.Check(e) != nil || !entry.Same(e, clone(e)) || entry.Canonical(e) == (last == end) || entry.Has(e, end) {
					t.Errorf("%v is not as it was", e)
				}
				if !slices.Equal(memory, before) {
					t.Fatalf("%s, or a change of its result, makes %v of its argument", name, memory)
				}
			}
		}
	}
}

// P2 and rule 4: a result stays as it is when the argument or another result changes.
func TestP2Independent(t *testing.T) {
	for name, call := range results() {
		for _, last := range []uint64{10, 11} {
			l := api.Ranges{iv(1, 3), iv(5, 5), iv(8, 10)}
			got, other := call(last, l), call(last, l)
			want := slices.Clone(got)
			if len(want) == 0 {
				t.Errorf("the result of %s is empty", name)
			}
			for i := range l {
				l[i] = iv(77, 77)
			}
			clear(other[:cap(other)])
			_ = append(other[:0], iv(99, 99))
			if !slices.Equal(got, want) {
				t.Errorf("a change of an argument or of another result of %s makes the result %v, not %v", name, got, want)
			}
			again := call(last, api.Ranges{iv(1, 3), iv(5, 5), iv(8, 10)})
			if !slices.Equal(again, want) {
				t.Errorf("after a change of its result, %s returns %v, not %v", name, again, want)
			}
		}
	}
}

// Rule 6: the functions may be called concurrently, also with the same entry.
func TestConcurrent(t *testing.T) {
	e := of(9, iv(1, 2), iv(7, 9))
	known := api.Ranges{iv(0, 0), iv(3, 6)}
	var wait sync.WaitGroup
	for i := range 8 {
		wait.Go(func() {
			form, ok := entry.Canon(e)
			made, okMade := entry.Of(7, known)
			if !ok || !okMade || !entry.Same(form, made) || entry.Canonical(e) || !entry.Canonical(form) {
				t.Errorf("goroutine %d: %v, %t, and %v, %t", i, form, ok, made, okMade)
			}
			if entry.Check(e) != nil || entry.Has(e, 7) || !entry.Has(e, 6) || !slices.Equal(entry.Known(e), known) {
				t.Errorf("goroutine %d: %v is known", i, entry.Known(e))
			}
		})
	}
	wait.Wait()
}
