package word_test

import (
	"math"
	"math/big"
	"slices"
	"strings"
	"sync"
	"testing"

	"kenning/word"
)

const greatest = math.MaxUint64

// numbers are ordinary numbers and the ones at the ends of ranges of bits.
var numbers = []uint64{
	0, 1, 2, 3, 9, 10, 11, 255, 256, 999, 1000, 1<<31 - 1, 1 << 31, 1<<32 - 1, 1 << 32, 1<<32 + 1,
	1<<53 + 1, 1<<63 - 1, 1 << 63, 1<<63 + 1, 9999999999999999999, 10000000000000000000,
	greatest - 2, greatest - 1, greatest,
}

// counts are all pairs of numbers.
func counts() []word.Count {
	var l []word.Count
	for _, over := range numbers {
		for _, low := range numbers {
			l = append(l, word.Count{Over: over, Low: low})
		}
	}
	return l
}

// bigOf returns what a count stands for.
func bigOf(c word.Count) *big.Int {
	n := new(big.Int).SetUint64(c.Over)
	n.Lsh(n, 64)
	return n.Add(n, new(big.Int).SetUint64(c.Low))
}

// bigSum returns a sum that may be greater than a number.
func bigSum(l ...uint64) *big.Int {
	sum := new(big.Int)
	for _, x := range l {
		sum.Add(sum, new(big.Int).SetUint64(x))
	}
	return sum
}

func TestP2_1Next(t *testing.T) {
	for _, c := range []struct {
		x, want uint64
		ok      bool
	}{
		{0, 1, true}, {1, 2, true}, {41, 42, true}, {1<<32 - 1, 1 << 32, true}, {1<<63 - 1, 1 << 63, true},
		{greatest - 1, greatest, true}, {greatest, 0, false},
	} {
		if got, ok := word.Next(c.x); got != c.want || ok != c.ok {
			t.Errorf("Next(%d) = %d, %t, want %d, %t", c.x, got, ok, c.want, c.ok)
		}
	}
}

func TestP2_1Prev(t *testing.T) {
	for _, c := range []struct {
		x, want uint64
		ok      bool
	}{
		{0, 0, false}, {1, 0, true}, {2, 1, true}, {42, 41, true}, {1 << 32, 1<<32 - 1, true},
		{1 << 63, 1<<63 - 1, true}, {greatest, greatest - 1, true},
	} {
		if got, ok := word.Prev(c.x); got != c.want || ok != c.ok {
			t.Errorf("Prev(%d) = %d, %t, want %d, %t", c.x, got, ok, c.want, c.ok)
		}
	}
}

func TestP2_1Inverse(t *testing.T) {
	for _, x := range numbers {
		if next, ok := word.Next(x); ok {
			if back, ok := word.Prev(next); !ok || back != x {
				t.Errorf("Prev(Next(%d)) = %d, %t", x, back, ok)
			}
		} else if x != greatest {
			t.Errorf("Next(%d) has no result", x)
		}
		if prev, ok := word.Prev(x); ok {
			if back, ok := word.Next(prev); !ok || back != x {
				t.Errorf("Next(Prev(%d)) = %d, %t", x, back, ok)
			}
		} else if x != 0 {
			t.Errorf("Prev(%d) has no result", x)
		}
	}
}

func TestP2_2Sum(t *testing.T) {
	for _, c := range []struct {
		l    []uint64
		want uint64
		ok   bool
	}{
		{nil, 0, true},
		{[]uint64{}, 0, true},
		{[]uint64{0}, 0, true},
		{[]uint64{7}, 7, true},
		{[]uint64{greatest}, greatest, true},
		{[]uint64{2, 3}, 5, true},
		{[]uint64{1, 2, 3, 4}, 10, true},
		{[]uint64{0, 0, 0}, 0, true},
		{[]uint64{greatest, 0}, greatest, true},
		{[]uint64{0, greatest, 0, 0}, greatest, true},
		{[]uint64{greatest - 1, 1}, greatest, true},
		{[]uint64{1, greatest - 1}, greatest, true},
		{[]uint64{greatest, 1}, 0, false},
		{[]uint64{1, greatest}, 0, false},
		{[]uint64{greatest, greatest}, 0, false},
		{[]uint64{1 << 63, 1<<63 - 1}, greatest, true},
		{[]uint64{1 << 63, 1 << 63}, 0, false},
		{[]uint64{1 << 62, 1 << 62, 1 << 62, 1<<62 - 1}, greatest, true},
		{[]uint64{1 << 62, 1 << 62, 1 << 62, 1 << 62}, 0, false},
		{[]uint64{1<<63 - 1, 1 << 63, 0, 1}, 0, false},
		{[]uint64{greatest - 3, 1, 1, 1}, greatest, true},
		{[]uint64{greatest - 3, 1, 1, 1, 1}, 0, false},
		// Wrapped around, these would be numbers again, some of them greater than what is added last.
		{[]uint64{greatest, 1, 5}, 0, false},
		{[]uint64{5, greatest, 100}, 0, false},
		{[]uint64{1 << 63, 1 << 63, greatest}, 0, false},
		{[]uint64{1 << 63, 1 << 63, 1 << 63, 1 << 63}, 0, false},
		{[]uint64{greatest, greatest, greatest, 3}, 0, false},
	} {
		if got, ok := word.Sum(c.l...); got != c.want || ok != c.ok {
			t.Errorf("Sum(%d) = %d, %t, want %d, %t", c.l, got, ok, c.want, c.ok)
		}
	}
}

func TestP2_2SumOfAllPairsAndTriples(t *testing.T) {
	check := func(l ...uint64) {
		sum := bigSum(l...)
		want, fits := uint64(0), sum.IsUint64()
		if fits {
			want = sum.Uint64()
		}
		if got, ok := word.Sum(l...); got != want || ok != fits {
			t.Errorf("Sum(%d) = %d, %t, want %d, %t", l, got, ok, want, fits)
		}
	}
	for _, a := range numbers {
		for _, b := range numbers {
			check(a, b)
			for _, c := range numbers {
				check(a, b, c)
			}
		}
	}
}

func TestP2_2SumOfMany(t *testing.T) {
	// 2^16 times 2^48 is just too great; with the last one less by 1, it is just not.
	l := slices.Repeat([]uint64{1 << 48}, 1<<16)
	if got, ok := word.Sum(l...); got != 0 || ok {
		t.Errorf("a sum of 2^64 = %d, %t", got, ok)
	}
	l[len(l)-1]--
	if got, ok := word.Sum(l...); got != greatest || !ok {
		t.Errorf("a sum of 2^64 - 1 = %d, %t", got, ok)
	}
	if got, ok := word.Sum(append(l, 1)...); got != 0 || ok {
		t.Errorf("a sum of 2^64 = %d, %t", got, ok)
	}
}

// Rule 4: the slice that is passed is not changed, and not read beyond its length.
func TestP2_2SumKeepsItsArgument(t *testing.T) {
	l := []uint64{1, 2, greatest, 4}
	before := slices.Clone(l)
	if got, ok := word.Sum(l[:2]...); got != 3 || !ok {
		t.Errorf("Sum of a part = %d, %t, want 3, true", got, ok)
	}
	if got, ok := word.Sum(l[:0]...); got != 0 || !ok {
		t.Errorf("Sum of an empty part = %d, %t, want 0, true", got, ok)
	}
	word.Sum(l...)
	if !slices.Equal(l, before) {
		t.Errorf("Sum changed its argument to %d", l)
	}
}

func TestP2_3Between(t *testing.T) {
	for _, c := range []struct {
		a, b, want uint64
		ok         bool
	}{
		{0, 0, 0, false}, {5, 5, 0, false}, {greatest, greatest, 0, false},
		{1, 0, 0, false}, {9, 5, 0, false}, {greatest, 0, 0, false}, {greatest, greatest - 1, 0, false},
		{0, 1, 0, true}, {4, 5, 0, true}, {greatest - 1, greatest, 0, true},
		{0, 2, 1, true}, {5, 9, 3, true}, {greatest - 2, greatest, 1, true},
		{0, greatest, greatest - 1, true}, {1, greatest, greatest - 2, true}, {0, greatest - 1, greatest - 2, true},
		{1<<63 - 1, 1 << 63, 0, true}, {0, 1 << 63, 1<<63 - 1, true}, {1 << 63, 1<<63 - 1, 0, false},
	} {
		if got, ok := word.Between(c.a, c.b); got != c.want || ok != c.ok {
			t.Errorf("Between(%d, %d) = %d, %t, want %d, %t", c.a, c.b, got, ok, c.want, c.ok)
		}
	}
}

func TestP2_3BetweenCounts(t *testing.T) {
	for a := range uint64(12) {
		for b := range uint64(12) {
			want := uint64(0)
			for x := range uint64(12) {
				if x > a && x < b {
					want++
				}
			}
			if got, ok := word.Between(a, b); got != want || ok != (a < b) {
				t.Errorf("Between(%d, %d) = %d, %t, want %d, %t", a, b, got, ok, want, a < b)
			}
		}
	}
}

func TestP2_4Width(t *testing.T) {
	for _, c := range []struct {
		lo, hi uint64
		want   word.Count
	}{
		{0, 0, word.Count{Low: 1}}, {7, 7, word.Count{Low: 1}}, {greatest, greatest, word.Count{Low: 1}},
		{0, 1, word.Count{Low: 2}}, {3, 9, word.Count{Low: 7}}, {greatest - 4, greatest, word.Count{Low: 5}},
		{1, 0, word.Count{}}, {9, 3, word.Count{}}, {greatest, 0, word.Count{}}, {greatest, greatest - 1, word.Count{}},
		{0, greatest - 1, word.Count{Low: greatest}}, {1, greatest, word.Count{Low: greatest}},
		{0, greatest, word.Count{Over: 1}},
		{0, 1<<63 - 1, word.Count{Low: 1 << 63}}, {1 << 63, greatest, word.Count{Low: 1 << 63}},
	} {
		if got := word.Width(c.lo, c.hi); got != c.want {
			t.Errorf("Width(%d, %d) = %v, want %v", c.lo, c.hi, got, c.want)
		}
	}
}

func TestP2_4WidthOfAllPairs(t *testing.T) {
	for _, lo := range numbers {
		for _, hi := range numbers {
			want := new(big.Int)
			if lo <= hi {
				want.Sub(bigSum(hi, 1), bigSum(lo))
			}
			if got := word.Width(lo, hi); bigOf(got).Cmp(want) != 0 {
				t.Errorf("Width(%d, %d) = %v, want %d", lo, hi, got, want)
			}
		}
	}
}

func TestP2_5Plus(t *testing.T) {
	for _, c := range []struct{ a, b, want word.Count }{
		{word.Count{}, word.Count{}, word.Count{}},
		{word.Count{Low: 2}, word.Count{Low: 3}, word.Count{Low: 5}},
		{word.Count{Over: 2}, word.Count{Over: 3}, word.Count{Over: 5}},
		{word.Count{Over: 1, Low: 2}, word.Count{Over: 3, Low: 4}, word.Count{Over: 4, Low: 6}},
		{word.Count{Low: greatest}, word.Count{}, word.Count{Low: greatest}},
		{word.Count{Low: greatest - 1}, word.Count{Low: 1}, word.Count{Low: greatest}},
		{word.Count{Low: greatest}, word.Count{Low: 1}, word.Count{Over: 1}},
		{word.Count{Low: greatest}, word.Count{Low: greatest}, word.Count{Over: 1, Low: greatest - 1}},
		{word.Count{Low: 1 << 63}, word.Count{Low: 1 << 63}, word.Count{Over: 1}},
		{word.Count{Over: 4, Low: greatest}, word.Count{Over: 5, Low: 2}, word.Count{Over: 10, Low: 1}},
		{word.Count{Over: greatest}, word.Count{Low: greatest}, word.Count{Over: greatest, Low: greatest}},
		{word.Count{Over: greatest - 1, Low: greatest}, word.Count{Low: 1}, word.Count{Over: greatest}},
		{word.Count{Over: 1<<63 - 1, Low: greatest}, word.Count{Over: 1 << 63}, word.Count{Over: greatest, Low: greatest}},
	} {
		if got := word.Plus(c.a, c.b); got != c.want {
			t.Errorf("Plus(%v, %v) = %v, want %v", c.a, c.b, got, c.want)
		}
		if got := word.Plus(c.b, c.a); got != c.want {
			t.Errorf("Plus(%v, %v) = %v, want %v", c.b, c.a, got, c.want)
		}
	}
}

func TestP2_5PlusOfAllPairs(t *testing.T) {
	all := counts()
	for _, a := range all {
		for _, b := range all {
			want := new(big.Int).Add(bigOf(a), bigOf(b))
			if want.BitLen() > 128 {
				continue // the document says nothing of these
			}
			if got := word.Plus(a, b); bigOf(got).Cmp(want) != 0 {
				t.Errorf("Plus(%v, %v) = %v, want %d", a, b, got, want)
			}
		}
	}
}

func TestP2_5Compare(t *testing.T) {
	for _, c := range []struct {
		a, b word.Count
		want int
	}{
		{word.Count{}, word.Count{}, 0},
		{word.Count{Low: 1}, word.Count{Low: 2}, -1},
		{word.Count{Over: 3, Low: 1}, word.Count{Over: 3, Low: 2}, -1},
		{word.Count{Over: 3, Low: greatest - 1}, word.Count{Over: 3, Low: greatest}, -1},
		{word.Count{Low: 0}, word.Count{Low: greatest}, -1},
		{word.Count{Over: 1, Low: 7}, word.Count{Over: 2, Low: 7}, -1},
		{word.Count{Over: greatest - 1}, word.Count{Over: greatest}, -1},
		{word.Count{Over: 0}, word.Count{Over: greatest}, -1},
		{word.Count{Over: 1, Low: 9}, word.Count{Over: 2, Low: 3}, -1},
		{word.Count{Low: greatest}, word.Count{Over: 1}, -1},
		{word.Count{Over: 5, Low: 6}, word.Count{Over: 5, Low: 6}, 0},
		{word.Count{Over: greatest, Low: greatest}, word.Count{Over: greatest, Low: greatest}, 0},
	} {
		if got := word.Compare(c.a, c.b); got != c.want {
			t.Errorf("Compare(%v, %v) = %d, want %d", c.a, c.b, got, c.want)
		}
		if got := word.Compare(c.b, c.a); got != -c.want {
			t.Errorf("Compare(%v, %v) = %d, want %d", c.b, c.a, got, -c.want)
		}
	}
}

func TestP2_5CompareOfAllPairs(t *testing.T) {
	all := counts()
	for _, a := range all {
		for _, b := range all {
			if got, want := word.Compare(a, b), bigOf(a).Cmp(bigOf(b)); got != want {
				t.Errorf("Compare(%v, %v) = %d, want %d", a, b, got, want)
			}
		}
	}
}

func TestP2_6Text(t *testing.T) {
	for _, c := range []struct {
		c    word.Count
		want string
	}{
		{word.Count{}, "0"},
		{word.Count{Low: 1}, "1"},
		{word.Count{Low: 9}, "9"},
		{word.Count{Low: 10}, "10"},
		{word.Count{Low: 105}, "105"},
		{word.Count{Low: 1000}, "1000"},
		{word.Count{Low: 1234567890}, "1234567890"},
		{word.Count{Low: greatest}, "18446744073709551615"},
		{word.Count{Over: 1}, "18446744073709551616"},
		{word.Count{Over: 1, Low: 1}, "18446744073709551617"},
		{word.Count{Over: 1, Low: greatest}, "36893488147419103231"},
		{word.Count{Over: 2}, "36893488147419103232"},
		{word.Count{Over: 5, Low: 7766279631452241919}, "99999999999999999999"},
		{word.Count{Over: 5, Low: 7766279631452241920}, "100000000000000000000"},
		{word.Count{Over: 5421010862427522170, Low: 687399551400673280}, "100000000000000000000000000000000000000"},
		{word.Count{Over: 5421010862427522170, Low: 687399551400673279}, "99999999999999999999999999999999999999"},
		{word.Count{Over: greatest}, "340282366920938463444927863358058659840"},
		{word.Count{Over: greatest, Low: greatest}, "340282366920938463463374607431768211455"},
	} {
		if got := word.Text(c.c); got != c.want {
			t.Errorf("Text(%v) = %q, want %q", c.c, got, c.want)
		}
	}
}

func TestP2_6TextOfAllCounts(t *testing.T) {
	for _, c := range counts() {
		got := word.Text(c)
		if want := bigOf(c).String(); got != want {
			t.Errorf("Text(%v) = %q, want %q", c, got, want)
		}
		if strings.HasPrefix(got, "0") && got != "0" {
			t.Errorf("Text(%v) = %q begins with 0", c, got)
		}
	}
}

// The digits of a power of ten are all zeros but one, those of the count below it all nines.
func TestP2_6TextOfPowersOfTen(t *testing.T) {
	power, mask := big.NewInt(1), new(big.Int).SetUint64(greatest)
	countOf := func(n *big.Int) word.Count {
		return word.Count{Over: new(big.Int).Rsh(n, 64).Uint64(), Low: new(big.Int).And(n, mask).Uint64()}
	}
	for zeros := range 39 {
		if got, want := word.Text(countOf(power)), "1"+strings.Repeat("0", zeros); got != want {
			t.Errorf("the text of 10^%d is %q", zeros, got)
		}
		if zeros > 0 {
			below := new(big.Int).Sub(power, big.NewInt(1))
			if got, want := word.Text(countOf(below)), strings.Repeat("9", zeros); got != want {
				t.Errorf("the text of 10^%d - 1 is %q", zeros, got)
			}
		}
		power.Mul(power, big.NewInt(10))
	}
}

func TestExampleOfTheChapter(t *testing.T) {
	if got := word.Text(word.Width(0, greatest)); got != "18446744073709551616" {
		t.Errorf("the text of the width of all numbers is %q", got)
	}
}

// P1: no argument that is permitted makes a function panic.
func TestP1AllNumbers(t *testing.T) {
	for _, a := range numbers {
		word.Next(a)
		word.Prev(a)
		for _, b := range numbers {
			word.Sum(a, b)
			word.Between(a, b)
			word.Width(a, b)
			word.Text(word.Count{Over: a, Low: b})
		}
	}
}

// P2 and rule 7: a call does not depend on the calls before it.
func TestP2Independent(t *testing.T) {
	results := func() []string {
		var l []string
		for _, c := range counts() {
			sum, ok := word.Sum(c.Over, c.Low)
			between, less := word.Between(c.Over, c.Low)
			if ok {
				l = append(l, word.Text(word.Count{Low: sum}))
			}
			if less {
				l = append(l, word.Text(word.Count{Low: between}))
			}
			l = append(l, word.Text(c), word.Text(word.Width(c.Over, c.Low)))
		}
		return l
	}
	if first, second := results(), results(); !slices.Equal(first, second) {
		t.Error("the same calls have other results the second time")
	}
}

// Rule 6: the functions may be called concurrently.
func TestConcurrent(t *testing.T) {
	l := []uint64{greatest - 3, 1, 1, 1}
	var wait sync.WaitGroup
	for i := range uint64(8) {
		wait.Go(func() {
			if sum, ok := word.Sum(l...); sum != greatest || !ok {
				t.Errorf("goroutine %d: Sum = %d, %t", i, sum, ok)
			}
			c := word.Plus(word.Count{Over: i, Low: greatest}, word.Count{Low: 1})
			if want := (word.Count{Over: i + 1}); c != want || word.Text(c) != bigOf(want).String() {
				t.Errorf("goroutine %d: %v has the text %q", i, c, word.Text(c))
			}
		})
	}
	wait.Wait()
}
