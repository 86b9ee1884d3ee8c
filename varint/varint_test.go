package varint_test

import (
	"bytes"
	"encoding/binary"
	"iter"
	"math"
	"math/big"
	"math/rand"
	"slices"
	"strconv"
	"sync"
	"testing"

	"kenning/api"
	"kenning/fault"
	"kenning/varint"
)

const greatest = math.MaxUint64

// written returns the bytes of a number, as the document says it: from the text of its bits.
func written(x uint64) []byte {
	digits := strconv.FormatUint(x, 2)
	var l []byte
	for len(digits) > 7 {
		last := len(digits) - 7
		group, _ := strconv.ParseUint(digits[last:], 2, 8)
		l, digits = append(l, byte(group+128)), digits[:last]
	}
	group, _ := strconv.ParseUint(digits, 2, 8)
	return append(l, byte(group))
}

// outcome is what reading byte by byte comes to.
type outcome struct {
	value uint64
	taken int
	state int
}

// value returns the number whose groups are in some bytes, the lowest one first.
func value(l []byte) uint64 {
	sum := new(big.Int)
	for _, c := range slices.Backward(l) {
		sum.Mul(sum, big.NewInt(128))
		sum.Add(sum, big.NewInt(int64(c)%128))
	}
	if !sum.IsUint64() {
		panic("more than 64 bits: " + sum.String())
	}
	return sum.Uint64()
}

// read reads bytes one by one, as the document says it.
func read(b []byte) outcome {
	for i, c := range b {
		switch {
		case i == 9 && c > 1, i != 0 && c == 0:
			return outcome{0, i + 1, 2}
		case c < 128:
			return outcome{value(b[:i+1]), i + 1, 1}
		}
	}
	return outcome{0, len(b), 0}
}

// now returns what a reader tells, with the state that it returned last.
func now(r *varint.Reader, state int) outcome { return outcome{r.Value(), r.Len(), state} }

// ends yields the least and the greatest number of each length, and the length.
func ends() iter.Seq2[uint64, int] {
	return func(yield func(uint64, int) bool) {
		least := uint64(0)
		for n := 1; n <= 10; n++ {
			last := uint64(greatest)
			if n < 10 {
				last = 1<<(7*n) - 1
			}
			if !yield(least, n) || !yield(last, n) {
				return
			}
			least = last + 1
		}
	}
}

// numbers returns numbers of all lengths: both ends of each, those next to them, those next to each power of 2, and random ones.
func numbers() []uint64 {
	var l []uint64
	for x := range ends() {
		// Both may wrap around, which is as good as any other number.
		l = append(l, x-1, x, x+1)
	}
	random := rand.New(rand.NewSource(16))
	for i := range 64 {
		x := uint64(1) << i
		l = append(l, x-1, x, x+1, -x)
		for range 20 {
			l = append(l, random.Uint64()>>i)
		}
	}
	slices.Sort(l)
	return slices.Compact(l)
}

// sequences yields bytes of all kinds: all of up to two bytes, then few kinds of bytes behind runs of bytes that go on, and each byte in each place. They are the same memory again and again.
func sequences() iter.Seq[[]byte] {
	return func(yield func([]byte) bool) {
		b := make([]byte, 0, 32)
		if !yield(b) {
			return
		}
		for i := range 1 << 8 {
			if !yield(append(b, byte(i))) {
				return
			}
		}
		for i := range 1 << 16 {
			if !yield(append(b, byte(i), byte(i>>8))) {
				return
			}
		}
		for _, run := range []byte{0x80, 0x81, 0xff} {
			for n := range 13 {
				b := append(b, bytes.Repeat([]byte{run}, n)...)
				if !tails(b, yield) {
					return
				}
			}
		}
	}
}

// tails yields bytes with each single byte behind them, and with each three bytes of few kinds behind them.
func tails(b []byte, yield func([]byte) bool) bool {
	for c := range 1 << 8 {
		if !yield(append(b, byte(c))) {
			return false
		}
	}
	kinds := []byte{0, 1, 2, 0x7f, 0x80, 0x81, 0xff}
	for _, c := range kinds {
		for _, d := range kinds {
			for _, e := range kinds {
				if !yield(append(b, c, d, e)) {
					return false
				}
			}
		}
	}
	return true
}

// fails checks that reading fails with a code and the offset at, and with no other result.
func fails(t *testing.T, b []byte, at int, code api.Errno) {
	t.Helper()
	x, end, err := varint.Read(b, at)
	f, ok := err.(api.Fault)
	if x != 0 || end != 0 || !ok || f != (api.Fault{Code: code, At: at}) {
		t.Errorf("Read(% x, %d) = %d, %d, %#v, want 0, 0 and the code %d at %d", b, at, x, end, err, code, at)
	}
}

// reads checks that reading returns a number and the index behind its bytes.
func reads(t *testing.T, b []byte, at int, want uint64, behind int) {
	t.Helper()
	if x, end, err := varint.Read(b, at); x != want || end != behind || err != nil {
		t.Errorf("Read(% x, %d) = %d, %d, %v, want %d, %d, nil", b, at, x, end, err, want, behind)
	}
}

// comes checks that reading from an index comes to what the document says.
func comes(t *testing.T, b []byte, at int) {
	t.Helper()
	switch want := read(b[at:]); want.state {
	case varint.Done:
		reads(t, b, at, want.value, at+want.taken)
	case varint.Wrong:
		fails(t, b, at, api.ErrVarint)
	default:
		fails(t, b, at, api.ErrShort)
	}
}

func TestConstants(t *testing.T) {
	if varint.Most != 10 || varint.More != 0 || varint.Done != 1 || varint.Wrong != 2 {
		t.Error("the constants are not those of the document")
	}
}

func TestExamplesOfTheChapter(t *testing.T) {
	if got := varint.Append(nil, 300); !bytes.Equal(got, []byte{0xac, 0x02}) {
		t.Errorf("the bytes of 300 are % x", got)
	}
	if varint.Size(300) != 2 {
		t.Errorf("300 has %d bytes", varint.Size(300))
	}
	reads(t, []byte{0xac, 0x02}, 0, 300, 2)
	fails(t, []byte{0x80, 0x00}, 0, api.ErrVarint)
	var r varint.Reader
	if a, b := r.Put(0x80), r.Put(0x00); a != varint.More || b != varint.Wrong {
		t.Errorf("the states of 80 00 are %d and %d", a, b)
	}
}

func TestP16_1Size(t *testing.T) {
	for x, n := range ends() {
		if got := varint.Size(x); got != n {
			t.Errorf("Size(%d) = %d, want %d", x, got, n)
		}
	}
	for _, x := range numbers() {
		if got, want := varint.Size(x), len(written(x)); got != want {
			t.Errorf("Size(%d) = %d, want %d", x, got, want)
		}
		if got := varint.Size(x); got < 1 || got > varint.Most {
			t.Errorf("Size(%d) = %d", x, got)
		}
	}
}

func TestP16_1Append(t *testing.T) {
	for _, c := range []struct {
		x    uint64
		want []byte
	}{
		{0, []byte{0}},
		{1, []byte{1}},
		{127, []byte{0x7f}},
		{128, []byte{0x80, 1}},
		{129, []byte{0x81, 1}},
		{255, []byte{0xff, 1}},
		{256, []byte{0x80, 2}},
		{16383, []byte{0xff, 0x7f}},
		{16384, []byte{0x80, 0x80, 1}},
		{1<<21 - 1, []byte{0xff, 0xff, 0x7f}},
		{1 << 21, []byte{0x80, 0x80, 0x80, 1}},
		{0x0102030405060708, []byte{0x88, 0x8e, 0x98, 0xa8, 0xc0, 0xe0, 0x80, 0x81, 1}},
		{1<<63 - 1, []byte{0xff, 0xff, 0xff, 0xff, 0xff, 0xff, 0xff, 0xff, 0x7f}},
		{1 << 63, []byte{0x80, 0x80, 0x80, 0x80, 0x80, 0x80, 0x80, 0x80, 0x80, 1}},
		{greatest, []byte{0xff, 0xff, 0xff, 0xff, 0xff, 0xff, 0xff, 0xff, 0xff, 1}},
	} {
		if got := varint.Append(nil, c.x); !bytes.Equal(got, c.want) {
			t.Errorf("Append(nil, %d) = % x, want % x", c.x, got, c.want)
		}
		if got := varint.Append([]byte{}, c.x); !bytes.Equal(got, c.want) {
			t.Errorf("Append of no bytes and %d = % x, want % x", c.x, got, c.want)
		}
	}
}

func TestP16_1AppendAllLengths(t *testing.T) {
	for _, x := range numbers() {
		got := varint.Append(nil, x)
		if want := written(x); !bytes.Equal(got, want) {
			t.Errorf("Append(nil, %d) = % x, want % x", x, got, want)
		}
		if want := binary.AppendUvarint(nil, x); !bytes.Equal(got, want) {
			t.Errorf("Append(nil, %d) = % x, want % x", x, got, want)
		}
		if len(got) != varint.Size(x) {
			t.Errorf("%d has %d bytes, but the Size %d", x, len(got), varint.Size(x))
		}
	}
}

func TestP16_1AppendBehindBytes(t *testing.T) {
	before := []byte{0x80, 0, 0xff, 1, 0x80, 0x80}
	for n := range len(before) + 1 {
		for _, x := range numbers() {
			for _, spare := range []int{0, 1, 5, 40} {
				b := append(make([]byte, 0, n+spare), before[:n]...)
				got := varint.Append(b, x)
				if want := slices.Concat(before[:n], written(x)); !bytes.Equal(got, want) {
					t.Errorf("Append(% x, %d) = % x, want % x", before[:n], x, got, want)
				}
				if !bytes.Equal(b, before[:n]) {
					t.Errorf("Append(% x, %d) changed its bytes: % x", before[:n], x, b)
				}
			}
		}
	}
}

func TestP16_1AppendInARow(t *testing.T) {
	var b, want []byte
	size := 0
	for _, x := range numbers() {
		b, want, size = varint.Append(b, x), append(want, written(x)...), size+varint.Size(x)
	}
	if !bytes.Equal(b, want) || len(b) != size {
		t.Errorf("numbers in a row have %d bytes and the sizes %d, want %d", len(b), size, len(want))
	}
	at := 0
	for _, x := range numbers() {
		reads(t, b, at, x, at+varint.Size(x))
		at += varint.Size(x)
	}
	fails(t, b, at, api.ErrShort)
}

// run returns bytes that go on, with further bytes behind them.
func run(c byte, n int, last ...byte) []byte {
	return append(bytes.Repeat([]byte{c}, n), last...)
}

func TestP16_2Read(t *testing.T) {
	for _, c := range []struct {
		b      []byte
		at     int
		want   uint64
		behind int
	}{
		{[]byte{0}, 0, 0, 1},
		{[]byte{0, 0}, 0, 0, 1},
		{[]byte{0, 0}, 1, 0, 2},
		{[]byte{0x7f}, 0, 127, 1},
		{[]byte{0x7f, 0xff}, 0, 127, 1},
		{[]byte{0x80, 1}, 0, 128, 2},
		{[]byte{0x80, 1}, 1, 1, 2},
		{[]byte{0x80, 0x80, 1, 0}, 0, 16384, 3},
		{[]byte{0xff, 0x80, 1, 0}, 1, 128, 3},
		{[]byte{0x80, 0, 0xac, 2, 0x80}, 2, 300, 4},
		{run(0x80, 8, 1), 0, 1 << 56, 9},
		{run(0x80, 9, 1), 0, 1 << 63, 10},
		{run(0xff, 9, 1), 0, greatest, 10},
		{run(0xff, 9, 1, 0xff, 0), 0, greatest, 10},
		{run(0xff, 11, 1), 2, greatest, 12},
	} {
		reads(t, c.b, c.at, c.want, c.behind)
	}
}

func TestP16_2Wrong(t *testing.T) {
	for _, c := range []struct {
		b  []byte
		at int
	}{
		{[]byte{0x80, 0}, 0},
		{[]byte{0xff, 0}, 0},
		{[]byte{0x81, 0, 1}, 0},
		{[]byte{0x80, 0x80, 0}, 0},
		{[]byte{0x80, 0x80, 0}, 1},
		{[]byte{5, 0xff, 0x80, 0, 1}, 1},
		{run(0x80, 9, 0), 0},
		{run(0xff, 9, 0), 0},
		{run(0x80, 9, 2), 0},
		{run(0xff, 9, 2), 0},
		{run(0xff, 9, 0x7f), 0},
		{run(0xff, 9, 0x80), 0},
		{run(0xff, 9, 0x81, 1), 0},
		{run(0x80, 10), 0},
		{run(0x80, 11), 0},
		{run(0x80, 11), 1},
		{run(0xff, 10), 0},
		{run(0x80, 1000, 1), 0},
		{run(0x80, 1000, 1), 900},
	} {
		fails(t, c.b, c.at, api.ErrVarint)
	}
}

func TestP16_2Short(t *testing.T) {
	for _, x := range numbers() {
		b := written(x)
		for n := range len(b) {
			fails(t, b[:n], 0, api.ErrShort)
			fails(t, append([]byte{1, 0x80, 0}, b[:n]...), 3, api.ErrShort)
		}
	}
	for n := range 10 {
		fails(t, run(0x80, n), 0, api.ErrShort)
		fails(t, run(0xff, n), n, api.ErrShort)
	}
	// The bytes are wrong before they end.
	fails(t, run(0x80, 10), 0, api.ErrVarint)
	fails(t, run(0x80, 11), 2, api.ErrShort)
}

func TestP16_2Index(t *testing.T) {
	for _, b := range [][]byte{nil, {}, {5}, {0x80, 1}, {0x80, 0}, run(0xff, 9, 1), run(0x80, 20)} {
		n := len(b)
		for _, at := range []int{n, n + 1, n + 2, 1000, math.MaxInt - 1, math.MaxInt, -1, -2, -n, -1000, math.MinInt + 1, math.MinInt} {
			fails(t, b, at, api.ErrShort)
		}
	}
}

func TestP16_2AllSequences(t *testing.T) {
	for b := range sequences() {
		comes(t, b, 0)
		if t.Failed() {
			return
		}
	}
}

func TestP16_2FromEachIndex(t *testing.T) {
	random := rand.New(rand.NewSource(162))
	kinds := []byte{0, 1, 2, 0x7f, 0x80, 0x80, 0x80, 0x80, 0x80, 0x81, 0xff, 0xff, 0xff, 0xff}
	for range 3000 {
		b := make([]byte, random.Intn(40))
		for i := range b {
			b[i] = kinds[random.Intn(len(kinds))]
		}
		for at := range len(b) + 1 {
			comes(t, b, at)
		}
	}
}

// Bytes behind the length of a slice are not read.
func TestP16_2BehindTheLength(t *testing.T) {
	for _, x := range numbers() {
		b := written(x)
		for n := range len(b) {
			short := b[:n]
			fails(t, short, 0, api.ErrShort)
			fails(t, short, n, api.ErrShort)
			fails(t, short, n+1, api.ErrShort)
		}
	}
}

// step gives a reader the bytes one by one, and checks after each what the reader tells.
func step(t *testing.T, r *varint.Reader, b []byte) {
	t.Helper()
	for i, c := range b {
		state := r.Put(c)
		if got, want := now(r, state), read(b[:i+1]); got != want {
			t.Fatalf("after % x: %v, want %v", b[:i+1], got, want)
		}
	}
}

func TestP16_3Zero(t *testing.T) {
	var r varint.Reader
	if r.Value() != 0 || r.Len() != 0 {
		t.Errorf("a zero reader has the value %d and the length %d", r.Value(), r.Len())
	}
	r.Reset()
	if r != (varint.Reader{}) || r.Value() != 0 || r.Len() != 0 {
		t.Error("a zero reader is not the same after Reset")
	}
}

func TestP16_3States(t *testing.T) {
	for _, c := range []struct {
		b    []byte
		want []outcome
	}{
		{[]byte{0}, []outcome{{0, 1, 1}}},
		{[]byte{1}, []outcome{{1, 1, 1}}},
		{[]byte{0x7f}, []outcome{{127, 1, 1}}},
		{[]byte{0x80, 0x01}, []outcome{{0, 1, 0}, {128, 2, 1}}},
		{[]byte{0xac, 0x02}, []outcome{{0, 1, 0}, {300, 2, 1}}},
		{[]byte{0xff, 0x7f}, []outcome{{0, 1, 0}, {16383, 2, 1}}},
		{[]byte{0x80, 0}, []outcome{{0, 1, 0}, {0, 2, 2}}},
		{[]byte{0xff, 0xff, 0}, []outcome{{0, 1, 0}, {0, 2, 0}, {0, 3, 2}}},
		{[]byte{5, 6, 0x80, 0}, []outcome{{5, 1, 1}, {5, 1, 1}, {5, 1, 1}, {5, 1, 1}}},
		{[]byte{0, 0x80, 7}, []outcome{{0, 1, 1}, {0, 1, 1}, {0, 1, 1}}},
		{[]byte{0x81, 0, 1, 0x80}, []outcome{{0, 1, 0}, {0, 2, 2}, {0, 2, 2}, {0, 2, 2}}},
	} {
		var r varint.Reader
		for i, x := range c.b {
			state := r.Put(x)
			if got := now(&r, state); got != c.want[i] {
				t.Errorf("after % x: %v, want %v", c.b[:i+1], got, c.want[i])
			}
		}
	}
}

func TestP16_3TenthByte(t *testing.T) {
	for _, c := range []byte{0x80, 0x81, 0xff} {
		for last := range 1 << 8 {
			var r varint.Reader
			for i := range 9 {
				if state := r.Put(c); now(&r, state) != (outcome{0, i + 1, varint.More}) {
					t.Fatalf("after %d bytes %x: %v", i+1, c, now(&r, state))
				}
			}
			want := outcome{0, 10, varint.Wrong}
			if last == 1 {
				want = outcome{value(run(c, 9, 1)), 10, varint.Done}
			}
			if state := r.Put(byte(last)); now(&r, state) != want {
				t.Errorf("after nine bytes %x and %x: %v, want %v", c, last, now(&r, state), want)
			}
		}
	}
}

func TestP16_3AllSequences(t *testing.T) {
	for b := range sequences() {
		var r varint.Reader
		step(t, &r, b)
	}
}

func TestP16_3BehindTheEnd(t *testing.T) {
	for _, b := range [][]byte{{0}, {9}, {0x80, 1}, run(0xff, 9, 1), {0x80, 0}, run(0x80, 5, 0), run(0x80, 9, 0), run(0xff, 9, 2), run(0xff, 10)} {
		var r varint.Reader
		state := 0
		for _, c := range b {
			state = r.Put(c)
		}
		want := read(b)
		if got := now(&r, state); got != want || want.taken != len(b) {
			t.Fatalf("% x: %v, want %v", b, got, want)
		}
		before := r
		for range 3 {
			for c := range 1 << 8 {
				state := r.Put(byte(c))
				if got := now(&r, state); got != want || r != before {
					t.Fatalf("% x, then %x behind the end: %v, want %v", b, c, got, want)
				}
			}
		}
	}
}

func TestP16_3Reset(t *testing.T) {
	var r varint.Reader
	for b := range sequences() {
		step(t, &r, b)
		r.Reset()
		if got := now(&r, varint.More); got != (outcome{}) || r != (varint.Reader{}) {
			t.Fatalf("after % x and Reset: %v", b, got)
		}
	}
}

func TestP16_3Nil(t *testing.T) {
	var r *varint.Reader
	for range 2 {
		for c := range 1 << 8 {
			if state := r.Put(byte(c)); state != varint.Wrong {
				t.Fatalf("Put(%x) of a nil reader = %d", c, state)
			}
			if r.Value() != 0 || r.Len() != 0 {
				t.Fatalf("a nil reader has the value %d and the length %d", r.Value(), r.Len())
			}
		}
		r.Reset()
	}
}

func TestP16_4ReadInvertsAppend(t *testing.T) {
	for _, x := range numbers() {
		for _, before := range [][]byte{nil, {0}, {0x80}, {0x80, 0}, run(0xff, 12)} {
			b := varint.Append(before, x)
			reads(t, b, len(before), x, len(b))
			reads(t, append(b, 0), len(before), x, len(b))
			reads(t, append(b, 0xff, 0x80), len(before), x, len(b))
		}
		var r varint.Reader
		step(t, &r, varint.Append(nil, x))
		if r.Value() != x || r.Len() != varint.Size(x) {
			t.Errorf("a reader reads %d from %d bytes of %d", r.Value(), r.Len(), x)
		}
	}
}

func TestP16_4BytesThatAreReadAreWritten(t *testing.T) {
	for b := range sequences() {
		x, end, err := varint.Read(b, 0)
		if err != nil {
			continue
		}
		if got := varint.Append(nil, x); !bytes.Equal(got, b[:end]) || varint.Size(x) != end {
			t.Fatalf("%d is read from % x, but has the bytes % x", x, b[:end], got)
		}
	}
}

// Each number below 2^14 has one of the sequences of up to two bytes, and no other one.
func TestP16_4OneSequence(t *testing.T) {
	found := make([]int, 1<<14)
	for i := range 1 << 8 {
		if x, _, err := varint.Read([]byte{byte(i)}, 0); err == nil {
			found[x]++
		}
		for j := range 1 << 8 {
			b := []byte{byte(i), byte(j)}
			if x, end, err := varint.Read(b, 0); err == nil && end == 2 {
				found[x]++
			}
		}
	}
	for x, n := range found {
		if n != 1 {
			t.Errorf("%d is read from %d sequences of bytes", x, n)
		}
	}
}

// P1: no index and no bytes make Read panic or run on.
func TestP1AllArguments(t *testing.T) {
	for b := range sequences() {
		for _, at := range []int{math.MinInt, -1, 0, 1, len(b) - 1, len(b), len(b) + 1, math.MaxInt} {
			x, end, err := varint.Read(b, at)
			if err == nil && (end <= at || end > len(b)) || err != nil && (x != 0 || end != 0 || fault.At(err) != at) {
				t.Fatalf("Read(% x, %d) = %d, %d, %v", b, at, x, end, err)
			}
		}
	}
}

// P1: a number has at most ten bytes, however many are there.
func TestP1LongBytes(t *testing.T) {
	long := run(0x80, 1<<22, 1)
	for range 1000 {
		fails(t, long, 0, api.ErrVarint)
	}
	reads(t, long, len(long)-10, 1<<63, len(long))
	var r varint.Reader
	for _, c := range long {
		r.Put(c)
	}
	if got := now(&r, r.Put(1)); got != (outcome{0, 10, varint.Wrong}) {
		t.Errorf("after many bytes: %v", got)
	}
}

func TestArgumentsStay(t *testing.T) {
	for b := range sequences() {
		before := slices.Clone(b)
		for at := -1; at <= len(b)+1; at++ {
			if _, _, err := varint.Read(b, at); !bytes.Equal(b, before) {
				t.Fatalf("Read(% x, %d) changed its bytes: % x, %v", before, at, b, err)
			}
		}
	}
}

// P2: readers are independent of each other.
func TestP2Independent(t *testing.T) {
	texts := [][]byte{{7}, {0xac, 0x02}, {0x80, 0}, run(0xff, 9, 1), run(0xff, 9, 2), run(0x80, 4), {}}
	readers := make([]varint.Reader, len(texts))
	states := make([]int, len(texts))
	for i := range varint.Most {
		for n, b := range texts {
			if i < len(b) {
				states[n] = readers[n].Put(b[i])
			}
			if n > 0 && i == varint.Most-1 {
				readers[0].Reset()
			}
		}
	}
	for n, b := range texts {
		want := read(b)
		if n == 0 {
			want = outcome{0, 0, varint.Done}
		}
		if got := now(&readers[n], states[n]); got != want {
			t.Errorf("% x: %v, want %v", b, got, want)
		}
	}
}

// Results do not change when the bytes that were passed do.
func TestSharesNoMemory(t *testing.T) {
	b := []byte{0xac, 0x02}
	full := slices.Clip(b)
	got := varint.Append(full, 300)
	b[0], b[1] = 0, 0
	if !bytes.Equal(got, []byte{0xac, 0x02, 0xac, 0x02}) {
		t.Errorf("the result changed to % x", got)
	}
	one, other := varint.Append(nil, 300), varint.Append(nil, 300)
	one[0] = 0
	if other[0] != 0xac {
		t.Error("two results share memory")
	}
	var r varint.Reader
	r.Put(0xac)
	r.Put(0x02)
	if r.Value() != 300 {
		t.Errorf("the reader has the value %d", r.Value())
	}
}

// Rule 7: the capacity of a slice does not matter.
func TestDeterminism(t *testing.T) {
	for _, x := range numbers() {
		b := written(x)
		wide := append(make([]byte, 0, 100), b...)
		for range 3 {
			reads(t, slices.Clip(b), 0, x, len(b))
			reads(t, wide, 0, x, len(b))
			if !bytes.Equal(varint.Append(slices.Clip(b), x), varint.Append(wide, x)) {
				t.Errorf("the bytes of %d differ", x)
			}
		}
	}
}

// Rule 6: the functions may be called concurrently.
func TestConcurrent(t *testing.T) {
	l := numbers()
	var shared []byte
	for _, x := range l {
		shared = append(shared, written(x)...)
	}
	var wait sync.WaitGroup
	for i := range 8 {
		wait.Go(func() {
			var r varint.Reader
			at := 0
			for n, x := range l {
				got, end, err := varint.Read(shared, at)
				if got != x || err != nil {
					t.Errorf("goroutine %d: number %d is read as %d, %v", i, n, got, err)
				}
				r.Reset()
				for _, c := range varint.Append(nil, x) {
					r.Put(c)
				}
				if r.Value() != x || r.Len() != end-at {
					t.Errorf("goroutine %d: number %d is put as %d", i, n, r.Value())
				}
				at = end
			}
		})
	}
	wait.Wait()
}
