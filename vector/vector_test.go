package vector_test

import (
	"cmp"
	"math"
	"math/rand"
	"slices"
	"strings"
	"sync"
	"testing"

	"kenning/api"
	"kenning/entry"
	"kenning/fault"
	"kenning/vector"
)

const greatest = math.MaxUint64

func iv(lo, hi uint64) api.Interval { return api.Interval{Lo: lo, Hi: hi} }

// of returns an entry.
func of(replica, last uint64, holes ...api.Interval) api.Entry {
	return api.Entry{Replica: replica, Max: last, Holes: holes}
}

// clone returns a copy of a vector.
func clone(v api.Vector) api.Vector {
	var l api.Vector
	for _, e := range v {
		l = append(l, api.Entry{Replica: e.Replica, Max: e.Max, Holes: append(api.Ranges(nil), e.Holes...)})
	}
	return l
}

// same compares two vectors field by field.
func same(a, b api.Vector) bool {
	return slices.EqualFunc(a, b, func(e, f api.Entry) bool {
		return e.Replica == f.Replica && e.Max == f.Max && slices.Equal(e.Holes, f.Holes)
	})
}

// listed returns the numbers of a vector, as the document says them.
func listed(v api.Vector) []uint64 {
	l := []uint64{uint64(len(v))}
	for _, e := range v {
		l = append(l, e.Replica, e.Max, uint64(len(e.Holes)))
		for _, hole := range e.Holes {
			l = append(l, hole.Lo, hole.Hi)
		}
	}
	return l
}

// knows reports whether a version is known by a vector, as the document says it.
func knows(v api.Vector, replica, counter uint64) bool {
	return slices.ContainsFunc(v, func(e api.Entry) bool {
		inHole := slices.ContainsFunc(e.Holes, func(hole api.Interval) bool { return hole.Lo <= counter && counter <= hole.Hi })
		return e.Replica == replica && counter <= e.Max && !inHole
	})
}

// wrong returns the code of what is wrong with an entry, step by step as the document says it.
func wrong(e api.Entry) api.Errno {
	for i, hole := range e.Holes {
		if hole.Lo > hole.Hi {
			return api.ErrInverted
		}
		// Lo may be 0, and Hi may be the greatest number, so a difference tells whether there is a number between them.
		if i > 0 && (hole.Lo <= e.Holes[i-1].Hi || hole.Lo-e.Holes[i-1].Hi < 2) {
			return api.ErrOrder
		}
	}
	for _, hole := range e.Holes {
		if hole.Hi > e.Max {
			return api.ErrHole
		}
	}
	return api.OK
}

// model returns what is wrong with a vector, as the document says it.
func model(v api.Vector) api.Fault {
	for i, e := range v {
		if code := wrong(e); code != api.OK {
			return api.Fault{Code: code, At: i}
		}
		if i > 0 && e.Replica <= v[i-1].Replica {
			return api.Fault{Code: api.ErrOrder, At: i}
		}
	}
	return api.Fault{}
}

// isCanonical reports whether a vector is correct, and no Max is in a hole.
func isCanonical(v api.Vector) bool {
	full := slices.ContainsFunc(v, func(e api.Entry) bool { return !knows(v, e.Replica, e.Max) })
	return model(v) == (api.Fault{}) && !full
}

// holes returns the list of a set of numbers, which has a bit for each: one interval for each run of them.
func holes(set uint, end uint64) api.Ranges {
	var l api.Ranges
	for x := range end {
		switch last := len(l) - 1; {
		case set>>x&1 == 0:
		case last >= 0 && l[last].Hi == x-1:
			l[last].Hi = x
		default:
			l = append(l, iv(x, x))
		}
	}
	return l
}

// entries returns all correct entries of a replica with a Max below an end: those with all sets of holes.
func entries(replica, end uint64) []api.Entry {
	var l []api.Entry
	for last := range end {
		for set := range uint(1) << (last + 1) {
			l = append(l, of(replica, last, holes(set, last+1)...))
		}
	}
	return l
}

// vectors returns all vectors with an entry, or none, of each replica of a list.
func vectors(replicas []uint64, choices func(replica uint64) []api.Entry) []api.Vector {
	all := []api.Vector{nil}
	for _, replica := range replicas {
		for _, v := range slices.Clone(all) {
			for _, e := range choices(replica) {
				all = append(all, append(slices.Clip(v), e))
			}
		}
	}
	return all
}

// corrects returns all correct vectors of some replicas whose counters are below an end.
func corrects(end uint64, replicas ...uint64) []api.Vector {
	return vectors(replicas, func(replica uint64) []api.Entry { return entries(replica, end) })
}

// edges returns correct vectors of the least and the greatest numbers.
func edges() []api.Vector {
	return vectors([]uint64{0, 1, greatest - 1, greatest}, func(replica uint64) []api.Entry {
		return []api.Entry{
			of(replica, 0),
			of(replica, greatest),
			of(replica, greatest, iv(0, greatest)),
			of(replica, greatest, iv(1, greatest-2), iv(greatest, greatest)),
			of(replica, greatest, iv(0, greatest-1)),
		}
	})
}

// anyVectors returns all vectors of up to three entries of a pool: correct ones, and others with wrong entries in any order.
func anyVectors() []api.Vector {
	var pool []api.Entry
	for _, replica := range []uint64{0, 5, greatest} {
		pool = append(pool,
			of(replica, 3),
			of(replica, 3, iv(1, 3)),
			of(replica, 3, iv(0, 3)),
			of(replica, 3, iv(2, 1)),
			of(replica, 3, iv(1, 1), iv(2, 2)),
			of(replica, 3, iv(3, 4)),
		)
	}
	all := []api.Vector{nil}
	from := 0
	for range 3 {
		size := len(all)
		for _, v := range all[from:size] {
			for _, e := range pool {
				all = append(all, append(slices.Clip(v), e))
			}
		}
		from = size
	}
	return all
}

// long returns a correct vector with many entries, and the numbers of their replicas.
func long(random *rand.Rand, count int) (api.Vector, []uint64) {
	var v api.Vector
	var replicas []uint64
	replica := uint64(random.Intn(3))
	for range count {
		e := of(replica, 0)
		for range random.Intn(4) {
			lo := e.Max + 1 + uint64(random.Intn(3))
			e.Holes = append(e.Holes, iv(lo, lo+uint64(random.Intn(3))))
			e.Max = e.Holes[len(e.Holes)-1].Hi + uint64(random.Intn(2))
			if e.Max == e.Holes[len(e.Holes)-1].Hi {
				break
			}
		}
		v, replicas = append(v, e), append(replicas, replica)
		replica += 1 + uint64(random.Intn(3))
	}
	return v, replicas
}

// checkError checks that an error is the fault that is wanted, or nil for a fault whose code is api.OK.
func checkError(t *testing.T, v api.Vector, want api.Fault) {
	t.Helper()
	err := vector.Check(v)
	if want.Code == api.OK {
		if err != nil {
			t.Errorf("Check(%v) = %v at %d", v, err, fault.At(err))
		}
		return
	}
	if f, ok := err.(api.Fault); !ok || f != want {
		t.Errorf("Check(%v) = %#v, want %#v", v, err, want)
	}
}

func TestP9_1Check(t *testing.T) {
	none := api.Fault{}
	inverted := func(at int) api.Fault { return api.Fault{Code: api.ErrInverted, At: at} }
	order := func(at int) api.Fault { return api.Fault{Code: api.ErrOrder, At: at} }
	hole := func(at int) api.Fault { return api.Fault{Code: api.ErrHole, At: at} }
	for _, c := range []struct {
		v    api.Vector
		want api.Fault
	}{
		// Without entries.
		{nil, none},
		{api.Vector{}, none},
		// Correct entries in order, also such by which nothing is known.
		{api.Vector{of(0, 0)}, none},
		{api.Vector{of(7, 5, iv(2, 3))}, none},
		{api.Vector{of(greatest, greatest)}, none},
		{api.Vector{of(0, 9), of(1, 8), of(2, 7)}, none},
		{api.Vector{of(0, 0), of(greatest, greatest)}, none},
		{api.Vector{of(1<<63-1, 1), of(1<<63, 1), of(greatest-1, 1), of(greatest, 1)}, none},
		{api.Vector{of(3, 5, iv(4, 5)), of(9, 6, iv(0, 6)), of(12, 0, iv(0, 0))}, none},
		// One wrong entry: the only one, the first, one in between, the last.
		{api.Vector{of(7, 5, iv(3, 2))}, inverted(0)},
		{api.Vector{of(7, 5, iv(1, 1), iv(2, 2))}, order(0)},
		{api.Vector{of(7, 5, iv(5, 6))}, hole(0)},
		{api.Vector{of(0, 5, iv(5, 6)), of(1, 3), of(2, 3)}, hole(0)},
		{api.Vector{of(1, 3), of(2, 5, iv(5, 6)), of(3, 3)}, hole(1)},
		{api.Vector{of(1, 3), of(2, 5, iv(2, 1)), of(3, 3)}, inverted(1)},
		{api.Vector{of(1, 3), of(2, 5, iv(3, 3), iv(1, 1)), of(3, 3)}, order(1)},
		{api.Vector{of(1, 3), of(2, 3), of(greatest, 5, iv(0, 0), iv(5, 6))}, hole(2)},
		{api.Vector{of(1, 3), of(2, 3), of(greatest, 5, iv(0, 0), iv(6, 5))}, inverted(2)},
		// At is the index of the entry, not of the hole.
		{api.Vector{of(1, 3), of(2, 9, iv(0, 0), iv(2, 2), iv(4, 4), iv(6, 10))}, hole(1)},
		{api.Vector{of(1, 9, iv(0, 0), iv(2, 2), iv(4, 4), iv(9, 8))}, inverted(0)},
		// A wrong order: at the first, a middle and the last entry.
		{api.Vector{of(2, 3), of(1, 3)}, order(1)},
		{api.Vector{of(2, 3), of(1, 3), of(5, 3)}, order(1)},
		{api.Vector{of(2, 3), of(4, 3), of(3, 3), of(5, 3)}, order(2)},
		{api.Vector{of(2, 3), of(4, 3), of(6, 3), of(0, 3)}, order(3)},
		{api.Vector{of(2, 3), of(4, 3), of(6, 3), of(5, 3)}, order(3)},
		{api.Vector{of(greatest, 3), of(0, 3)}, order(1)},
		{api.Vector{of(greatest, 3), of(greatest-1, 3)}, order(1)},
		{api.Vector{of(1<<63, 3), of(1, 3)}, order(1)},
		// Two entries of one replica, the same one or others.
		{api.Vector{of(0, 3), of(0, 3)}, order(1)},
		{api.Vector{of(2, 3), of(2, 4)}, order(1)},
		{api.Vector{of(1, 3), of(2, 3), of(2, 2), of(3, 3)}, order(2)},
		{api.Vector{of(1, 3), of(greatest, 3), of(greatest, 3)}, order(2)},
		// An entry that is compared with the one directly before it.
		{api.Vector{of(5, 3), of(9, 3), of(7, 3)}, order(2)},
		// Several faults: the first entry counts.
		{api.Vector{of(1, 3, iv(4, 4)), of(2, 3, iv(2, 1)), of(2, 3)}, hole(0)},
		{api.Vector{of(1, 3), of(1, 3), of(2, 3, iv(2, 1))}, order(1)},
		{api.Vector{of(1, 3), of(2, 3, iv(2, 1)), of(2, 3)}, inverted(1)},
		{api.Vector{of(9, 3), of(8, 3), of(7, 3), of(6, 3, iv(2, 1))}, order(1)},
		{api.Vector{of(9, 3), of(10, 3, iv(4, 4)), of(7, 3), of(6, 3, iv(2, 1))}, hole(1)},
		// An entry that is wrong and in a wrong order.
		{api.Vector{of(2, 3), of(1, 3, iv(2, 1))}, inverted(1)},
		{api.Vector{of(2, 3), of(1, 3, iv(4, 4))}, hole(1)},
		{api.Vector{of(2, 3), of(2, 3, iv(3, 4))}, hole(1)},
		{api.Vector{of(2, 3), of(1, 3, iv(1, 1), iv(2, 2))}, order(1)},
		{api.Vector{of(1, 3), of(2, 3), of(2, 3, iv(2, 1)), of(1, 3)}, inverted(2)},
		// Within an entry, the errors are in the order of its check.
		{api.Vector{of(1, 3), of(2, 3, iv(8, 9), iv(2, 1))}, inverted(1)},
		{api.Vector{of(1, 3), of(2, 3, iv(8, 9), iv(10, 10))}, order(1)},
	} {
		checkError(t, c.v, c.want)
	}
}

// Many vectors that are correct, and many more that are not.
func TestP9_1AllVectors(t *testing.T) {
	counts := map[api.Fault]int{}
	for _, v := range slices.Concat(anyVectors(), corrects(2, 0, 1, greatest), edges()) {
		want := model(v)
		counts[want]++
		checkError(t, v, want)
		if at := want.At; want.Code != api.OK {
			if code := fault.Code(entry.Check(v[at])); code != api.OK && code != want.Code {
				t.Errorf("the code of Check(%v) is %d, but that of the entry is %d", v, want.Code, code)
			}
		}
	}
	for at := range 3 {
		for _, code := range []api.Errno{api.ErrInverted, api.ErrOrder, api.ErrHole} {
			if f := (api.Fault{Code: code, At: at}); counts[f] < 50 {
				t.Errorf("only %d vectors have the code %d at %d", counts[f], code, at)
			}
		}
	}
	if counts[api.Fault{}] < 500 {
		t.Errorf("only %d vectors are correct", counts[api.Fault{}])
	}
}

// One fault at any place of a vector with many entries.
func TestP9_1LongVectors(t *testing.T) {
	v, _ := long(rand.New(rand.NewSource(91)), 300)
	checkError(t, v, api.Fault{})
	for i, e := range v {
		v[i] = of(e.Replica, 3, iv(2, 1))
		checkError(t, v, api.Fault{Code: api.ErrInverted, At: i})
		v[i] = of(e.Replica, 3, iv(2, 4))
		checkError(t, v, api.Fault{Code: api.ErrHole, At: i})
		v[i] = e
		if i == 0 {
			continue
		}
		v[i].Replica = v[i-1].Replica
		checkError(t, v, api.Fault{Code: api.ErrOrder, At: i})
		v[i] = e
	}
}

func TestP9_2Find(t *testing.T) {
	for _, c := range []struct {
		v       api.Vector
		replica uint64
		want    int
	}{
		// Without entries.
		{nil, 0, -1},
		{nil, greatest, -1},
		{api.Vector{}, 7, -1},
		// One entry: before it, at it, and behind it.
		{api.Vector{of(7, 5)}, 6, -1},
		{api.Vector{of(7, 5)}, 7, 0},
		{api.Vector{of(7, 5)}, 8, -1},
		{api.Vector{of(7, 5)}, 0, -1},
		{api.Vector{of(7, 5)}, greatest, -1},
		{api.Vector{of(7, 5)}, 5, -1},
		{api.Vector{of(0, 5)}, 0, 0},
		{api.Vector{of(0, 5)}, 1, -1},
		{api.Vector{of(greatest, 5)}, greatest, 0},
		{api.Vector{of(greatest, 5)}, greatest - 1, -1},
		{api.Vector{of(greatest, 5)}, 0, -1},
		// Two entries, and more: each one, and the numbers between them.
		{api.Vector{of(0, 5), of(greatest, 5)}, 0, 0},
		{api.Vector{of(0, 5), of(greatest, 5)}, greatest, 1},
		{api.Vector{of(0, 5), of(greatest, 5)}, 1 << 63, -1},
		{api.Vector{of(2, 1), of(4, 1), of(7, 1)}, 0, -1},
		{api.Vector{of(2, 1), of(4, 1), of(7, 1)}, 1, -1},
		{api.Vector{of(2, 1), of(4, 1), of(7, 1)}, 2, 0},
		{api.Vector{of(2, 1), of(4, 1), of(7, 1)}, 3, -1},
		{api.Vector{of(2, 1), of(4, 1), of(7, 1)}, 4, 1},
		{api.Vector{of(2, 1), of(4, 1), of(7, 1)}, 5, -1},
		{api.Vector{of(2, 1), of(4, 1), of(7, 1)}, 6, -1},
		{api.Vector{of(2, 1), of(4, 1), of(7, 1)}, 7, 2},
		{api.Vector{of(2, 1), of(4, 1), of(7, 1)}, 8, -1},
		{api.Vector{of(2, 1), of(4, 1), of(7, 1)}, greatest, -1},
		{api.Vector{of(1<<63-1, 1), of(1<<63, 1), of(greatest-1, 1), of(greatest, 1)}, 1 << 63, 1},
		{api.Vector{of(1<<63-1, 1), of(1<<63, 1), of(greatest-1, 1), of(greatest, 1)}, greatest - 1, 2},
		// An entry by which nothing is known is one of its replica, too.
		{api.Vector{of(2, 1), of(4, 1, iv(0, 1))}, 4, 1},
	} {
		if got := vector.Find(c.v, c.replica); got != c.want {
			t.Errorf("Find(%v, %d) = %d, want %d", c.v, c.replica, got, c.want)
		}
	}
}

// All replicas of vectors with up to many entries, and those between them.
func TestP9_2FindInLongVectors(t *testing.T) {
	random := rand.New(rand.NewSource(92))
	for count := range 130 {
		v, replicas := long(random, count)
		end := uint64(0)
		if count > 0 {
			end = replicas[count-1]
		}
		for replica := range end + 3 {
			if got, want := vector.Find(v, replica), slices.Index(replicas, replica); got != want {
				t.Errorf("of %d entries, Find(%d) = %d, want %d", count, replica, got, want)
			}
		}
		if got := vector.Find(v, greatest); got != -1 {
			t.Errorf("of %d entries, Find finds the greatest replica at %d", count, got)
		}
	}
}

func TestP9_2Has(t *testing.T) {
	v := api.Vector{of(0, 3), of(5, 9, iv(0, 0), iv(4, 6)), of(6, 9, iv(8, 9)), of(7, 4, iv(0, 4)), of(greatest, greatest, iv(greatest-1, greatest-1))}
	for _, c := range []struct {
		v       api.Vector
		replica uint64
		known   []uint64
		unknown []uint64
	}{
		{nil, 0, nil, []uint64{0, 1, greatest}},
		{api.Vector{}, greatest, nil, []uint64{0, 1, greatest}},
		{api.Vector{of(0, 0)}, 0, []uint64{0}, []uint64{1, greatest}},
		// Of the first, the last and the other replicas: in holes, at their edges, at Max and behind it.
		{v, 0, []uint64{0, 1, 3}, []uint64{4, 5, greatest}},
		{v, 5, []uint64{1, 3, 7, 9}, []uint64{0, 4, 5, 6, 10, greatest}},
		{v, 6, []uint64{0, 4, 7}, []uint64{8, 9, 10, greatest}},
		{v, 7, nil, []uint64{0, 1, 4, 5, greatest}},
		{v, greatest, []uint64{0, 1 << 63, greatest - 2, greatest}, []uint64{greatest - 1}},
		// Of a replica before, between and behind all others.
		{v, 1, nil, []uint64{0, 1, 3, greatest}},
		{v, 4, nil, []uint64{0, 1, 3, greatest}},
		{v, 8, nil, []uint64{0, 1, 3, greatest}},
		{v, greatest - 1, nil, []uint64{0, 1, greatest}},
		{v[1:], 0, nil, []uint64{0, 1, 3, greatest}},
		{v[:4], greatest, nil, []uint64{0, 1, 3, greatest}},
	} {
		for _, x := range c.known {
			if !vector.Has(c.v, c.replica, x) {
				t.Errorf("Has(%v, %d, %d) = false", c.v, c.replica, x)
			}
		}
		for _, x := range c.unknown {
			if vector.Has(c.v, c.replica, x) {
				t.Errorf("Has(%v, %d, %d) = true", c.v, c.replica, x)
			}
		}
	}
}

// All versions of small vectors, and of those with the greatest numbers.
func TestP9_2AllVersions(t *testing.T) {
	numbers := []uint64{0, 1, 2, 3, 4, 5, 1 << 63, greatest - 2, greatest - 1, greatest}
	for _, v := range slices.Concat(corrects(3, 0, 1, 4), edges()) {
		for _, replica := range numbers {
			find := slices.IndexFunc(v, func(e api.Entry) bool { return e.Replica == replica })
			if got := vector.Find(v, replica); got != find {
				t.Errorf("Find(%v, %d) = %d, want %d", v, replica, got, find)
			}
			for _, counter := range numbers {
				if got, want := vector.Has(v, replica, counter), knows(v, replica, counter); got != want {
					t.Errorf("Has(%v, %d, %d) = %t", v, replica, counter, got)
				}
			}
		}
	}
}

func TestP9_3Canonical(t *testing.T) {
	for _, c := range []struct {
		v    api.Vector
		want bool
	}{
		{nil, true},
		{api.Vector{}, true},
		{api.Vector{of(0, 0)}, true},
		{api.Vector{of(0, 5, iv(2, 3)), of(3, 0), of(greatest, greatest, iv(0, greatest-1))}, true},
		// Max is in a hole of the only entry, of the first, of one in between, and of the last.
		{api.Vector{of(7, 5, iv(4, 5))}, false},
		{api.Vector{of(7, 5, iv(5, 5))}, false},
		{api.Vector{of(0, 5, iv(4, 5)), of(1, 3), of(2, 3)}, false},
		{api.Vector{of(0, 3), of(1, 5, iv(0, 1), iv(4, 5)), of(2, 3)}, false},
		{api.Vector{of(0, 3), of(1, 3), of(2, greatest, iv(greatest, greatest))}, false},
		// Nothing is known by an entry.
		{api.Vector{of(0, 0, iv(0, 0))}, false},
		{api.Vector{of(0, 0), of(4, 6, iv(0, 6))}, false},
		{api.Vector{of(0, greatest, iv(0, greatest)), of(4, 6)}, false},
		// Vectors that are not correct, though no Max is in a hole.
		{api.Vector{of(0, 5, iv(3, 2))}, false},
		{api.Vector{of(0, 5, iv(1, 1), iv(2, 2))}, false},
		{api.Vector{of(0, 5, iv(6, 6))}, false},
		{api.Vector{of(0, 5), of(1, 5, iv(7, 8))}, false},
		{api.Vector{of(2, 5), of(1, 5)}, false},
		{api.Vector{of(2, 5), of(2, 5)}, false},
		{api.Vector{of(0, 5), of(2, 5), of(2, 4)}, false},
		{api.Vector{of(0, 5), of(greatest, 5), of(2, 4)}, false},
		// Neither correct nor with a Max that is known.
		{api.Vector{of(2, 5), of(1, 5, iv(4, 5))}, false},
		{api.Vector{of(1, 5, iv(5, 6))}, false},
	} {
		if got := vector.Canonical(c.v); got != c.want {
			t.Errorf("Canonical(%v) = %t", c.v, got)
		}
	}
}

func TestP9_3CanonicalOfAllVectors(t *testing.T) {
	counts := map[bool]int{}
	for _, v := range slices.Concat(anyVectors(), corrects(3, 0, 1, greatest), edges()) {
		want := isCanonical(v)
		counts[want]++
		if got := vector.Canonical(v); got != want {
			t.Errorf("Canonical(%v) = %t", v, got)
		}
	}
	if counts[true] < 500 || counts[false] < 500 {
		t.Errorf("%d vectors are canonical, and %d are not", counts[true], counts[false])
	}
}

func TestP9_3Canon(t *testing.T) {
	for _, c := range []struct{ v, want api.Vector }{
		{nil, nil},
		{api.Vector{}, nil},
		// Canonical vectors.
		{api.Vector{of(0, 0)}, api.Vector{of(0, 0)}},
		{api.Vector{of(1, 5, iv(2, 3)), of(3, 0), of(greatest, greatest)}, api.Vector{of(1, 5, iv(2, 3)), of(3, 0), of(greatest, greatest)}},
		// Max is in the last hole of the only entry, of the first, of one in between, of the last, and of all.
		{api.Vector{of(7, 5, iv(4, 5))}, api.Vector{of(7, 3)}},
		{api.Vector{of(0, 5, iv(4, 5)), of(1, 2), of(2, 2)}, api.Vector{of(0, 3), of(1, 2), of(2, 2)}},
		{api.Vector{of(0, 2), of(1, 5, iv(0, 1), iv(4, 5)), of(2, 2)}, api.Vector{of(0, 2), of(1, 3, iv(0, 1)), of(2, 2)}},
		{api.Vector{of(0, 2), of(1, 2), of(greatest, greatest, iv(greatest, greatest))}, api.Vector{of(0, 2), of(1, 2), of(greatest, greatest-1)}},
		{api.Vector{of(0, 5, iv(4, 5)), of(1, 5, iv(1, 5)), of(2, 5, iv(0, 3), iv(5, 5))}, api.Vector{of(0, 3), of(1, 0), of(2, 4, iv(0, 3))}},
		// Nothing is known by the only entry, by the first, by one in between, by the last, and by all.
		{api.Vector{of(7, 5, iv(0, 5))}, nil},
		{api.Vector{of(0, 0, iv(0, 0)), of(1, 2), of(2, 2)}, api.Vector{of(1, 2), of(2, 2)}},
		{api.Vector{of(0, 2), of(1, 2, iv(0, 2)), of(2, 2)}, api.Vector{of(0, 2), of(2, 2)}},
		{api.Vector{of(0, 2), of(1, 2), of(greatest, greatest, iv(0, greatest))}, api.Vector{of(0, 2), of(1, 2)}},
		{api.Vector{of(0, 0, iv(0, 0)), of(1, 2, iv(0, 2)), of(2, greatest, iv(0, greatest))}, nil},
		// All kinds in one vector.
		{
			api.Vector{of(1, 3, iv(0, 3)), of(2, 9, iv(1, 1), iv(8, 9)), of(4, 0, iv(0, 0)), of(6, 5, iv(2, 3)), of(9, 1, iv(0, 1))},
			api.Vector{of(2, 7, iv(1, 1)), of(6, 5, iv(2, 3))},
		},
	} {
		if got := vector.Canon(c.v); !same(got, c.want) {
			t.Errorf("Canon(%v) = %v, want %v", c.v, got, c.want)
		}
	}
}

// By the canonical form the same versions are known, one by one, and it is its own form.
func TestP9_3CanonOfAllVectors(t *testing.T) {
	numbers := []uint64{0, 1, 2, 3, 4, 1 << 63, greatest - 2, greatest - 1, greatest}
	for _, v := range slices.Concat(corrects(3, 0, 1, greatest), edges()) {
		got := vector.Canon(v)
		if !isCanonical(got) {
			t.Errorf("Canon(%v) = %v, which is not canonical", v, got)
		}
		if isCanonical(v) && !same(got, v) {
			t.Errorf("Canon(%v) = %v, though it is canonical", v, got)
		}
		if again := vector.Canon(got); !same(again, got) {
			t.Errorf("Canon(%v) = %v, though it is canonical", got, again)
		}
		for _, replica := range numbers {
			for _, counter := range numbers {
				if knows(got, replica, counter) != knows(v, replica, counter) {
					t.Errorf("Canon(%v) = %v differs at the replica %d and the counter %d", v, got, replica, counter)
				}
			}
		}
	}
}

func TestP9_3LongVectors(t *testing.T) {
	random := rand.New(rand.NewSource(93))
	for range 20 {
		v, replicas := long(random, 200)
		for i := range v {
			if random.Intn(4) == 0 {
				v[i].Holes = api.Ranges{iv(0, v[i].Max)}
			}
		}
		got := vector.Canon(v)
		if vector.Canonical(v) || !vector.Canonical(got) {
			t.Errorf("Canonical(%v) = %t, and Canonical(%v) = %t", v, vector.Canonical(v), got, vector.Canonical(got))
		}
		for _, replica := range replicas {
			for counter := range uint64(25) {
				if knows(got, replica, counter) != knows(v, replica, counter) {
					t.Errorf("Canon(%v) = %v differs at the replica %d and the counter %d", v, got, replica, counter)
				}
			}
		}
	}
}

func TestP9_4Numbers(t *testing.T) {
	for _, c := range []struct {
		v    api.Vector
		want []uint64
	}{
		{nil, []uint64{0}},
		{api.Vector{}, []uint64{0}},
		{api.Vector{{}}, []uint64{1, 0, 0, 0}},
		{api.Vector{of(7, 5)}, []uint64{1, 7, 5, 0}},
		{api.Vector{{Replica: 7, Max: 5, Holes: api.Ranges{}}}, []uint64{1, 7, 5, 0}},
		{api.Vector{of(7, 5, iv(2, 3))}, []uint64{1, 7, 5, 1, 2, 3}},
		{api.Vector{of(7, 9, iv(2, 3), iv(5, 5), iv(8, 9))}, []uint64{1, 7, 9, 3, 2, 3, 5, 5, 8, 9}},
		{api.Vector{of(1, 5), of(2, 4)}, []uint64{2, 1, 5, 0, 2, 4, 0}},
		{api.Vector{of(1, 5, iv(0, 1)), of(2, 4), of(3, 8, iv(6, 7))}, []uint64{3, 1, 5, 1, 0, 1, 2, 4, 0, 3, 8, 1, 6, 7}},
		{api.Vector{of(greatest, greatest, iv(0, greatest))}, []uint64{1, greatest, greatest, 1, 0, greatest}},
		// Vectors that are not correct.
		{api.Vector{of(7, 5, iv(3, 2))}, []uint64{1, 7, 5, 1, 3, 2}},
		{api.Vector{of(7, 5, iv(8, 9), iv(8, 9))}, []uint64{1, 7, 5, 2, 8, 9, 8, 9}},
		{api.Vector{of(7, 5), of(7, 5)}, []uint64{2, 7, 5, 0, 7, 5, 0}},
		{api.Vector{of(9, 1), of(3, 2, iv(1, 0)), of(6, 3)}, []uint64{3, 9, 1, 0, 3, 2, 1, 1, 0, 6, 3, 0}},
	} {
		if got := vector.Numbers(c.v); !slices.Equal(got, c.want) {
			t.Errorf("Numbers(%v) = %v, want %v", c.v, got, c.want)
		}
	}
}

func TestP9_4NumbersOfAllVectors(t *testing.T) {
	all := slices.Concat(anyVectors(), corrects(3, 0, 1, greatest), edges())
	for _, count := range []int{10, 500} {
		v, _ := long(rand.New(rand.NewSource(94)), count)
		all = append(all, v)
	}
	for _, v := range all {
		if got, want := vector.Numbers(v), listed(v); !slices.Equal(got, want) {
			t.Errorf("Numbers(%v) = %v, want %v", v, got, want)
		}
	}
}

// checkOrder checks both directions of a comparison.
func checkOrder(t *testing.T, a, b api.Vector, want int) {
	t.Helper()
	if got := vector.Compare(a, b); got != want {
		t.Errorf("Compare(%v, %v) = %d, want %d", a, b, got, want)
	}
	if got := vector.Compare(b, a); got != -want {
		t.Errorf("Compare(%v, %v) = %d, want %d", b, a, got, -want)
	}
}

// Each vector is less than those behind it.
func TestP9_4Ascending(t *testing.T) {
	ascending := []api.Vector{
		nil,
		// One entry: its Replica, its Max, the number of its holes, and Lo and Hi of each.
		{of(0, 0)},
		{of(0, 0, iv(0, 0))},
		{of(0, 1)},
		{of(0, greatest, iv(0, greatest))},
		{of(1, 0)},
		{of(7, 4, iv(2, 3))},
		{of(7, 5)},
		{of(7, 5, iv(0, 0))},
		{of(7, 5, iv(0, 5))},
		{of(7, 5, iv(1, 1))},
		{of(7, 5, iv(2, 3))},
		{of(7, 5, iv(2, 4))},
		{of(7, 5, iv(3, 3))},
		{of(7, 5, iv(0, 0), iv(2, 2))},
		{of(7, 5, iv(0, 0), iv(2, 5))},
		{of(7, 5, iv(0, 0), iv(3, 3))},
		{of(7, 5, iv(0, 1), iv(3, 3))},
		{of(7, 5, iv(1, 1), iv(3, 3))},
		{of(7, 5, iv(0, 0), iv(2, 2), iv(4, 4))},
		{of(7, 6)},
		{of(8, 0)},
		{of(1<<63-1, 5)},
		{of(1<<63, 5)},
		{of(greatest, 0)},
		{of(greatest, greatest-1)},
		{of(greatest, greatest)},
		{of(greatest, greatest, iv(greatest-1, greatest-1))},
		{of(greatest, greatest, iv(greatest, greatest))},
		// Two entries, even with the least numbers.
		{of(0, 0), of(1, 0)},
		{of(0, 0), of(1, 1)},
		{of(0, 0), of(1, 1, iv(0, 0))},
		{of(0, 0), of(2, 0)},
		{of(0, 0), of(greatest, greatest, iv(0, greatest))},
		{of(0, 0, iv(0, 0)), of(1, 0)},
		{of(0, 1), of(1, 0)},
		{of(2, 5), of(4, 5)},
		{of(3, 0), of(4, 0)},
		// Three.
		{of(0, 0), of(1, 0), of(2, 0)},
		{of(0, 0), of(1, 0), of(3, 0)},
		{of(0, 0), of(1, 1), of(2, 0)},
	}
	for i, a := range ascending {
		for j, b := range ascending {
			if got, want := vector.Compare(a, clone(b)), cmp.Compare(i, j); got != want {
				t.Errorf("Compare(%v, %v) = %d, want %d", a, b, got, want)
			}
		}
	}
}

func TestP9_4Compare(t *testing.T) {
	checkOrder(t, nil, nil, 0)
	checkOrder(t, nil, api.Vector{}, 0)
	checkOrder(t, api.Vector{of(7, 5)}, api.Vector{{Replica: 7, Max: 5, Holes: api.Ranges{}}}, 0)
	v := api.Vector{of(2, 9, iv(1, 2), iv(5, 6)), of(4, 9), of(6, 9, iv(0, 1), iv(3, 4), iv(8, 8))}
	checkOrder(t, v, v, 0)
	// The entries of one are the beginning, or the end, of those of the other one.
	for i := range v {
		checkOrder(t, v[:i], v, -1)
		checkOrder(t, v[i+1:], v, -1)
	}
	// The holes of one are the beginning of those of the other one.
	for i, e := range v {
		for j := range e.Holes {
			less := clone(v)
			less[i].Holes = less[i].Holes[:j]
			checkOrder(t, less, v, -1)
		}
	}
	// The same versions are known, but the vectors are not the same.
	checkOrder(t, api.Vector{of(7, 3)}, api.Vector{of(7, 5, iv(4, 5))}, -1)
	checkOrder(t, nil, api.Vector{of(7, 3, iv(0, 3))}, -1)
	// Vectors that are not correct are compared in the same way.
	checkOrder(t, api.Vector{of(7, 3), of(6, 3)}, api.Vector{of(6, 3), of(7, 3)}, 1)
	checkOrder(t, api.Vector{of(7, 3, iv(2, 1))}, api.Vector{of(7, 3, iv(1, 2))}, 1)
	checkOrder(t, api.Vector{of(7, 3), of(7, 3)}, api.Vector{of(7, 3), of(7, 3)}, 0)
	checkOrder(t, api.Vector{of(7, 3), of(7, 3)}, api.Vector{of(7, 3), of(7, 2)}, 1)
}

// Each number but the counts, changed on its own, decides, whatever follows it.
func TestP9_4EachNumber(t *testing.T) {
	v := api.Vector{of(10, 20, iv(12, 12), iv(15, 17)), of(30, 40), of(50, 60, iv(51, 52))}
	other := api.Vector{of(10, 20, iv(12, 12), iv(15, 17)), of(30, 40), of(50, 60, iv(51, 52))}
	var numbers []*uint64
	for i := range other {
		numbers = append(numbers, &other[i].Replica, &other[i].Max)
		for j := range other[i].Holes {
			numbers = append(numbers, &other[i].Holes[j].Lo, &other[i].Holes[j].Hi)
		}
	}
	checkOrder(t, v, other, 0)
	for i, number := range numbers {
		before := *number
		for _, x := range []uint64{0, before - 1, before + 1, 1 << 63, greatest} {
			*number = x
			checkOrder(t, other, v, cmp.Compare(x, before))
			// What is behind the first number that is different does not matter.
			for _, rest := range []uint64{0, greatest} {
				var kept []uint64
				for _, behind := range numbers[i+1:] {
					kept = append(kept, *behind)
					*behind = rest
				}
				checkOrder(t, other, v, cmp.Compare(x, before))
				for j, behind := range numbers[i+1:] {
					*behind = kept[j]
				}
			}
		}
		*number = before
	}
	checkOrder(t, v, other, 0)
}

// All pairs of many vectors, correct ones and others, by their lists of numbers.
func TestP9_4AllPairs(t *testing.T) {
	for _, all := range [][]api.Vector{corrects(2, 0, 1, greatest), edges()[:400], anyVectors()[:800]} {
		for _, a := range all {
			for _, b := range all {
				if got, want := vector.Compare(a, b), slices.Compare(listed(a), listed(b)); got != want {
					t.Errorf("Compare(%v, %v) = %d, want %d", a, b, got, want)
				}
			}
		}
	}
}

// A difference in one of many entries.
func TestP9_4LongVectors(t *testing.T) {
	random := rand.New(rand.NewSource(95))
	v, _ := long(random, 400)
	for i := range v {
		other := clone(v)
		checkOrder(t, v, other, 0)
		other[i].Max++
		checkOrder(t, v, other, -1)
		other = clone(v)
		other[i].Holes = append(other[i].Holes, iv(0, 0))
		checkOrder(t, v, other, -1)
		if last := len(v[i].Holes) - 1; last >= 0 {
			other = clone(v)
			other[i].Holes[last].Hi--
			checkOrder(t, v, other, 1)
		}
	}
}

func TestP9_5Clone(t *testing.T) {
	v, _ := long(rand.New(rand.NewSource(96)), 100)
	all := []api.Vector{
		nil,
		{},
		{{}},
		{of(7, 5)},
		{{Replica: 7, Max: 5, Holes: api.Ranges{}}},
		{of(7, 5, iv(2, 3)), of(9, 5, iv(4, 5)), of(greatest, greatest, iv(0, 0), iv(9, greatest))},
		v,
	}
	for _, v := range slices.Concat(all, anyVectors(), corrects(3, 0, 1, greatest), edges()) {
		before := clone(v)
		got := vector.Clone(v)
		if !same(got, v) {
			t.Errorf("Clone(%v) = %v", v, got)
		}
		overwrite(got)
		if !same(v, before) {
			t.Fatalf("a change of its clone makes %v of %v", v, before)
		}
	}
}

// overwrite changes all memory of a vector: its entries and their holes, and what is behind their ends.
func overwrite(v api.Vector) {
	v = v[:cap(v)]
	for i := range v {
		overwriteHoles(v[i].Holes)
		v[i] = of(77, 77, iv(77, 77))
	}
}

// overwriteHoles changes all memory of a list.
func overwriteHoles(l api.Ranges) {
	l = l[:cap(l)]
	for i := range l {
		l[i] = iv(78, 78)
	}
}

// Each part of a clone is independent of all others: the entries, and the holes of each entry.
func TestP9_5Parts(t *testing.T) {
	v := api.Vector{of(1, 9, iv(2, 3), iv(5, 5)), of(4, 9, iv(1, 1)), of(6, 9, iv(3, 4), iv(6, 6), iv(8, 8))}
	before := clone(v)
	for i := range v {
		got := vector.Clone(v)
		overwriteHoles(got[i].Holes)
		for j := range got {
			if i != j && !slices.Equal(got[j].Holes, v[j].Holes) {
				t.Errorf("a change of the holes %d of a clone makes %v of the holes %d", i, got[j].Holes, j)
			}
		}
		got = vector.Clone(v)
		_ = append(got[i].Holes, iv(99, 99))
		if !same(got, before) {
			t.Errorf("something appended to the holes %d makes %v of a clone", i, got)
		}
		// A change of the argument leaves the clone as it is.
		got = vector.Clone(v)
		overwriteHoles(v[i].Holes)
		v[i].Max, v[i].Replica, v[i].Holes = 1, 2, nil
		if !same(got, before) {
			t.Errorf("a change of the entry %d makes %v of its clone", i, got)
		}
		v = clone(before)
	}
}

// text returns which versions of a small range are known by a vector.
func text(v api.Vector, replicas []uint64, end uint64) string {
	var b strings.Builder
	for _, replica := range replicas {
		for counter := range end {
			if vector.Has(v, replica, counter) {
				b.WriteByte('x')
			} else {
				b.WriteByte('.')
			}
		}
	}
	return b.String()
}

// Of all pairs of canonical vectors, the equal ones are those by which the same versions are known.
func TestP9_6AllPairs(t *testing.T) {
	replicas := []uint64{0, 3, greatest}
	var all []api.Vector
	var known []string
	for _, v := range corrects(3, replicas...) {
		if vector.Canonical(v) {
			all, known = append(all, v), append(known, text(v, replicas, 4))
		}
	}
	// One for each set of the counters 0 to 2 of each replica.
	if want := 8 * 8 * 8; len(all) != want {
		t.Fatalf("%d vectors are canonical, want %d", len(all), want)
	}
	for i, a := range all {
		for j, b := range all {
			if equal := vector.Compare(a, clone(b)) == 0; equal != (known[i] == known[j]) {
				t.Errorf("%v and %v are equal: %t, but %s and %s are known", a, b, equal, known[i], known[j])
			}
		}
	}
}

// All correct vectors by which the same versions are known have one canonical form.
func TestP9_6OneForm(t *testing.T) {
	replicas := []uint64{0, 3, greatest}
	forms := map[string]api.Vector{}
	for _, v := range corrects(3, replicas...) {
		known, form := text(v, replicas, 4), vector.Canon(v)
		if text(form, replicas, 4) != known {
			t.Errorf("by %v other versions are known than by %v", form, v)
		}
		first, ok := forms[known]
		if !ok {
			forms[known] = form
			continue
		}
		if vector.Compare(form, first) != 0 {
			t.Errorf("%v and %v are canonical forms for the same versions", form, first)
		}
	}
	if want := 8 * 8 * 8; len(forms) != want {
		t.Errorf("%d sets of versions are known, want %d", len(forms), want)
	}
}

// Canonical vectors with many entries, which differ in one version.
func TestP9_6LongVectors(t *testing.T) {
	v, _ := long(rand.New(rand.NewSource(97)), 200)
	v = vector.Canon(v)
	for i, e := range v {
		for counter := range e.Max + 2 {
			other := clone(v)
			if knows(v, e.Replica, counter) {
				continue
			}
			// The holes are the counters up to Max that are not known, but for this one.
			other[i] = of(e.Replica, max(e.Max, counter))
			for x := range other[i].Max {
				if x == counter || knows(v, e.Replica, x) {
					continue
				}
				if last := len(other[i].Holes) - 1; last >= 0 && other[i].Holes[last].Hi == x-1 {
					other[i].Holes[last].Hi = x
				} else {
					other[i].Holes = append(other[i].Holes, iv(x, x))
				}
			}
			if !vector.Canonical(other) || !vector.Has(other, e.Replica, counter) || vector.Compare(v, other) == 0 {
				t.Errorf("with the counter %d of the replica %d, %v is %v", counter, e.Replica, e, other[i])
			}
		}
	}
}

func TestExamplesOfTheChapter(t *testing.T) {
	v := api.Vector{of(7, 5, iv(2, 3))}
	if got := vector.Numbers(v); !slices.Equal(got, []uint64{1, 7, 5, 1, 2, 3}) {
		t.Errorf("Numbers(%v) = %v", v, got)
	}
}

// P1: no argument makes a function panic or run on, not even a vector that is not correct.
func TestP1AllVectors(t *testing.T) {
	numbers := []uint64{0, 1, 3, 5, greatest - 1, greatest}
	all := anyVectors()
	// Many entries of one replica, in a wrong order, and with holes that touch or are inverted.
	var many api.Vector
	for x := range uint64(1000) {
		many = append(many, of(5, x, iv(x, x), iv(x, x), iv(x+1, 0)), of(greatest-x, 9))
	}
	all = append(all, many)
	for _, v := range all {
		vector.Check(v)
		vector.Canonical(v)
		vector.Canon(v)
		vector.Numbers(v)
		vector.Clone(v)
		vector.Compare(v, many)
		vector.Compare(many, v)
		for _, replica := range numbers {
			if i := vector.Find(v, replica); i < -1 || i >= len(v) {
				t.Errorf("Find(%v, %d) = %d", v, replica, i)
			}
			for _, counter := range numbers {
				vector.Has(v, replica, counter)
			}
		}
	}
}

// results are the functions that return a vector.
func results() map[string]func(v api.Vector) api.Vector {
	return map[string]func(v api.Vector) api.Vector{"Canon": vector.Canon, "Clone": vector.Clone}
}

// beginnings returns vectors in one memory, with entries whose holes are in another one: of each number of entries and of holes, with a Max that is at the end of the last hole, or behind it.
func beginnings(memory api.Vector, lists api.Ranges) []api.Vector {
	var all []api.Vector
	for count := range len(memory) + 1 {
		all = append(all, memory[:count])
	}
	for size := 1; size <= len(lists); size++ {
		end := lists[size-1].Hi
		all = append(all, api.Vector{of(3, end, lists[:size]...), of(9, max(end, end+1), lists[:size]...)})
	}
	return all
}

// Rule 4: no argument is changed, nothing behind its end is read or changed, and no result shares memory with it.
func TestArgumentsStay(t *testing.T) {
	lists := api.Ranges{iv(0, 4), iv(6, 6), iv(9, 12), iv(20, 29), iv(31, greatest)}
	memory := api.Vector{
		of(1, 9, lists[:2]...), of(2, 12, lists[:3]...), of(4, 4, lists[:1]...), of(7, 3), of(8, greatest, lists...),
	}
	listsBefore, before := slices.Clone(lists), clone(memory)
	all := beginnings(memory, lists)
	for _, a := range all {
		for name, call := range results() {
			want := call(clone(a))
			got := call(a)
			if !same(got, want) {
				t.Errorf("what is behind the end of %v makes %v of the result of %s, not %v", a, got, name, want)
			}
			overwrite(got)
		}
		numbers := vector.Numbers(a)
		if !slices.Equal(numbers, listed(a)) {
			t.Errorf("Numbers(%v) = %v", a, numbers)
		}
		clear(numbers[:cap(numbers)])
		for _, b := range all {
			if got, want := vector.Compare(a, b), slices.Compare(listed(a), listed(b)); got != want {
				t.Errorf("Compare(%v, %v) = %d", a, b, got)
			}
		}
		checkError(t, a, model(a))
		if vector.Canonical(a) != isCanonical(a) {
			t.Errorf("Canonical(%v) = %t", a, !isCanonical(a))
		}
		for x := range uint64(12) {
			if vector.Has(a, x, x) != knows(a, x, x) || (vector.Find(a, x) < 0) != !slices.ContainsFunc(a, func(e api.Entry) bool { return e.Replica == x }) {
				t.Errorf("Has(%v, %d, %d) = %t, and Find = %d", a, x, x, vector.Has(a, x, x), vector.Find(a, x))
			}
		}
		if !same(memory, before) || !slices.Equal(lists, listsBefore) {
			t.Fatalf("a function, or a change of its result, makes %v and %v of its argument", memory, lists)
		}
	}
}

// P2 and rule 4: a result stays as it is when the argument or another result changes.
func TestP2Independent(t *testing.T) {
	fresh := func() api.Vector {
		return api.Vector{of(1, 20, iv(2, 3), iv(7, 9)), of(4, 5), of(6, 30, iv(3, 4), iv(8, 30)), of(9, 4, iv(0, 4)), of(greatest, 8, iv(1, 1))}
	}
	for name, call := range results() {
		v := fresh()
		got, other := call(v), call(v)
		want := clone(got)
		if len(want) < 4 {
			t.Errorf("the result of %s is %v", name, want)
		}
		overwrite(v)
		overwrite(other)
		_ = append(other[:0], of(99, 99))
		if !same(got, want) {
			t.Errorf("a change of an argument or of another result of %s makes the result %v, not %v", name, got, want)
		}
		// No two lists of holes of one result share memory.
		for i := range got {
			overwriteHoles(got[i].Holes)
			if rest := got[i+1:]; !same(rest, want[i+1:]) {
				t.Errorf("a change of the holes %d of a result of %s makes %v of the others", i, name, rest)
			}
		}
		if again := call(fresh()); !same(again, want) {
			t.Errorf("after a change of its result, %s returns %v, not %v", name, again, want)
		}
	}
	v := fresh()
	got, other := vector.Numbers(v), vector.Numbers(v)
	overwrite(v)
	clear(other[:cap(other)])
	_ = append(other[:0], 99)
	if !slices.Equal(got, listed(fresh())) {
		t.Errorf("a change of the argument or of another result of Numbers makes the result %v", got)
	}
}

// Rule 6: the functions may be called concurrently, also with the same vector.
func TestConcurrent(t *testing.T) {
	v := api.Vector{of(1, 9, iv(1, 2), iv(7, 9)), of(4, 5, iv(0, 5)), of(greatest, 8, iv(1, 1))}
	form := api.Vector{of(1, 6, iv(1, 2)), of(greatest, 8, iv(1, 1))}
	var wait sync.WaitGroup
	for i := range 8 {
		wait.Go(func() {
			got := vector.Canon(v)
			if !same(got, form) || !vector.Canonical(got) || vector.Canonical(v) || vector.Compare(got, v) != -1 {
				t.Errorf("goroutine %d: the canonical form is %v", i, got)
			}
			if vector.Check(v) != nil || vector.Find(v, greatest) != 2 || !vector.Has(v, 1, 6) || vector.Has(v, 4, 0) {
				t.Errorf("goroutine %d: %v is not as it was", i, v)
			}
			if !slices.Equal(vector.Numbers(v), listed(v)) || !same(vector.Clone(v), v) {
				t.Errorf("goroutine %d: %v and %v", i, vector.Numbers(v), vector.Clone(v))
			}
		})
	}
	wait.Wait()
}
