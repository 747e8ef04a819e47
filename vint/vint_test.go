package vint_test

import (
	"bytes"
	"math"
	"math/big"
	"testing"

	"trug/api"
	"trug/vint"
)

// slowPut does what the chapter's section Words says, by division, so that it owes nothing to the package's shifts.
func slowPut(n uint64) []byte {
	var b []byte
	for n >= 128 {
		b = append(b, byte(128+n%128))
		n /= 128
	}
	return append(b, byte(n))
}

// slowFold computes with numbers that have no bounds, as the promise is written.
func slowFold(n int64) uint64 {
	x := big.NewInt(n)
	if n >= 0 {
		return x.Mul(x, big.NewInt(2)).Uint64()
	}
	x.Mul(x, big.NewInt(-2))
	return x.Sub(x, big.NewInt(1)).Uint64()
}

// edge is the least and the largest number whose encoding has length bytes.
type edge struct {
	length         int
	least, largest uint64
}

var edges = []edge{
	{1, 0, 0x7f},
	{2, 0x80, 0x3fff},
	{3, 0x4000, 0x1fffff},
	{4, 0x200000, 0xfffffff},
	{5, 0x10000000, 0x7ffffffff},
	{6, 0x800000000, 0x3ffffffffff},
	{7, 0x40000000000, 0x1ffffffffffff},
	{8, 0x2000000000000, 0xffffffffffffff},
	{9, 0x100000000000000, 0x7fffffffffffffff},
	{10, 0x8000000000000000, 0xffffffffffffffff},
}

// numbers are the edges of all lengths and their neighbours, each single bit, and irregular ones of every magnitude.
func numbers() []uint64 {
	var l []uint64
	for _, e := range edges {
		l = append(l, e.least, e.least+1, e.largest-1, e.largest)
	}
	x := uint64(88172645463325252)
	for i := range 64 {
		l = append(l, 1<<i, 1<<i-1, 1<<i+1, ^uint64(1<<i))
		for range 20 {
			x ^= x << 13
			x ^= x >> 7
			x ^= x << 17
			l = append(l, x>>i)
		}
	}
	for n := range uint64(70000) {
		l = append(l, n)
	}
	return l
}

// tails are bytes that may follow an encoding.
func tails() [][]byte {
	return [][]byte{nil, {0}, {0x77}, {0x7f}, {0x80}, {0x80, 0}, {0xff}, bytes.Repeat([]byte{0xff}, 12), make([]byte, 12)}
}

func joined(parts ...[]byte) []byte { return bytes.Join(parts, nil) }

func checkGet(t *testing.T, b []byte, n uint64, size int, e api.Errno) {
	t.Helper()
	if gotN, gotSize, gotE := vint.Get(b); gotN != n || gotSize != size || gotE != e {
		t.Errorf("Get(% x) = %d, %d, %d, want %d, %d, %d", b, gotN, gotSize, gotE, n, size, e)
	}
}

// P2.1
func TestPutOfKnownNumbers(t *testing.T) {
	for _, c := range []struct {
		n    uint64
		want []byte
	}{
		{0, []byte{0}},
		{1, []byte{1}},
		{127, []byte{0x7f}},
		{128, []byte{0x80, 1}},
		{255, []byte{0xff, 1}},
		{300, []byte{0xac, 2}},
		{16383, []byte{0xff, 0x7f}},
		{16384, []byte{0x80, 0x80, 1}},
		{624485, []byte{0xe5, 0x8e, 0x26}},
		{1 << 62, []byte{0x80, 0x80, 0x80, 0x80, 0x80, 0x80, 0x80, 0x80, 0x40}},
		{1<<63 - 1, []byte{0xff, 0xff, 0xff, 0xff, 0xff, 0xff, 0xff, 0xff, 0x7f}},
		{1 << 63, []byte{0x80, 0x80, 0x80, 0x80, 0x80, 0x80, 0x80, 0x80, 0x80, 1}},
		{math.MaxUint64, []byte{0xff, 0xff, 0xff, 0xff, 0xff, 0xff, 0xff, 0xff, 0xff, 1}},
	} {
		if got := vint.Put(c.n); !bytes.Equal(got, c.want) {
			t.Errorf("Put(%d) = % x, want % x", c.n, got, c.want)
		}
		if got := vint.Size(c.n); got != len(c.want) {
			t.Errorf("Size(%d) = %d, want %d", c.n, got, len(c.want))
		}
	}
}

// P2.1
func TestPutAndSizeAtTheEdges(t *testing.T) {
	for _, e := range edges {
		for _, n := range []uint64{e.least, e.largest} {
			if got := len(vint.Put(n)); got != e.length {
				t.Errorf("Put(%d) has %d bytes, want %d", n, got, e.length)
			}
			if got := vint.Size(n); got != e.length {
				t.Errorf("Size(%d) = %d, want %d", n, got, e.length)
			}
		}
	}
}

// P2.1
func TestPutAndSizeAgainstWords(t *testing.T) {
	for _, n := range numbers() {
		want := slowPut(n)
		if got := vint.Put(n); !bytes.Equal(got, want) {
			t.Fatalf("Put(%d) = % x, want % x", n, got, want)
		}
		if got := vint.Size(n); got != len(want) {
			t.Fatalf("Size(%d) = %d, want %d", n, got, len(want))
		}
	}
}

// P2.2
func TestGetOfKnownBytes(t *testing.T) {
	checkGet(t, []byte{0}, 0, 1, api.OK)
	checkGet(t, []byte{0x7f}, 127, 1, api.OK)
	checkGet(t, []byte{0, 0}, 0, 1, api.OK)
	checkGet(t, []byte{0, 0x80, 0}, 0, 1, api.OK)
	checkGet(t, []byte{0x80, 1}, 128, 2, api.OK)
	checkGet(t, []byte{0xac, 2}, 300, 2, api.OK)
	checkGet(t, []byte{0xac, 2, 0x77}, 300, 2, api.OK)
	checkGet(t, []byte{0x80, 0x80, 1}, 16384, 3, api.OK)
	checkGet(t, joined(bytes.Repeat([]byte{0xff}, 9), []byte{1}), math.MaxUint64, 10, api.OK)
	checkGet(t, joined(bytes.Repeat([]byte{0x80}, 9), []byte{1}), 1<<63, 10, api.OK)
}

// P2.2, R8
func TestGetOfNothing(t *testing.T) {
	for _, b := range [][]byte{nil, {}, make([]byte, 0, 8), []byte{0xac, 2}[2:]} {
		checkGet(t, b, 0, 0, api.ErrShort)
	}
}

// P2.2
func TestGetOfTooLittle(t *testing.T) {
	checkGet(t, []byte{0xac}, 0, 0, api.ErrShort)
	for _, n := range numbers() {
		b := slowPut(n)
		for k := range len(b) {
			checkGet(t, b[:k], 0, 0, api.ErrShort)
		}
	}
	for k := range 10 {
		for _, c := range []byte{0x80, 0x81, 0xfe, 0xff} {
			checkGet(t, bytes.Repeat([]byte{c}, k), 0, 0, api.ErrShort)
		}
	}
}

// P2.2: the last byte is 0 only if it is the only one.
func TestGetOfNeedlessZero(t *testing.T) {
	checkGet(t, []byte{0x80, 0}, 0, 0, api.ErrForm)
	checkGet(t, []byte{0xff, 0x80, 0}, 0, 0, api.ErrForm)
	for k := 1; k <= 9; k++ {
		for _, c := range []byte{0x80, 0x81, 0xac, 0xff} {
			for _, tail := range tails() {
				checkGet(t, joined(bytes.Repeat([]byte{c}, k), []byte{0}, tail), 0, 0, api.ErrForm)
			}
		}
	}
}

// P2.2: nine bytes leave one bit of 64 for the tenth.
func TestGetOfEveryTenthByte(t *testing.T) {
	for _, c := range []byte{0x80, 0x81, 0xff} {
		nine := bytes.Repeat([]byte{c}, 9)
		for tenth := range 256 {
			if tenth == 1 {
				continue
			}
			for _, tail := range tails() {
				checkGet(t, joined(nine, []byte{byte(tenth)}, tail), 0, 0, api.ErrForm)
			}
		}
	}
}

// P2.2
func TestGetOfTenAndMoreHighBytes(t *testing.T) {
	for _, c := range []byte{0x80, 0x81, 0xff} {
		for k := 10; k <= 80; k++ {
			checkGet(t, bytes.Repeat([]byte{c}, k), 0, 0, api.ErrForm)
			checkGet(t, joined(bytes.Repeat([]byte{c}, k), []byte{1}), 0, 0, api.ErrForm)
		}
	}
}

// P2.2: of one and of two bytes there are few enough to hold every one against the chapter's words.
func TestGetOfAllShortBytes(t *testing.T) {
	for first := range 256 {
		if first < 128 {
			checkGet(t, []byte{byte(first)}, uint64(first), 1, api.OK)
		} else {
			checkGet(t, []byte{byte(first)}, 0, 0, api.ErrShort)
		}
		for second := range 256 {
			b := []byte{byte(first), byte(second)}
			switch {
			case first < 128:
				checkGet(t, b, uint64(first), 1, api.OK)
			case second == 0:
				checkGet(t, b, 0, 0, api.ErrForm)
			case second < 128:
				checkGet(t, b, uint64(second*128+first-128), 2, api.OK)
			default:
				checkGet(t, b, 0, 0, api.ErrShort)
			}
		}
	}
}

// P2.3
func TestFoldOfKnownNumbers(t *testing.T) {
	for _, c := range []struct {
		n    int64
		want uint64
	}{
		{0, 0},
		{-1, 1},
		{1, 2},
		{-2, 3},
		{2, 4},
		{-64, 127},
		{64, 128},
		{-300, 599},
		{300, 600},
		{math.MaxInt32, math.MaxUint32 - 1},
		{math.MinInt32, math.MaxUint32},
		{math.MaxInt64, math.MaxUint64 - 1},
		{math.MinInt64 + 1, math.MaxUint64 - 2},
		{math.MinInt64, math.MaxUint64},
	} {
		if got := vint.Fold(c.n); got != c.want {
			t.Errorf("Fold(%d) = %d, want %d", c.n, got, c.want)
		}
		if got := vint.Unfold(c.want); got != c.n {
			t.Errorf("Unfold(%d) = %d, want %d", c.want, got, c.n)
		}
	}
}

// P2.3
func TestFoldAndUnfoldAgainstWords(t *testing.T) {
	for _, u := range numbers() {
		for _, n := range []int64{int64(u), -int64(u)} {
			want := slowFold(n)
			if got := vint.Fold(n); got != want {
				t.Fatalf("Fold(%d) = %d, want %d", n, got, want)
			}
			if got := vint.Unfold(want); got != n {
				t.Fatalf("Unfold(%d) = %d, want %d", want, got, n)
			}
		}
	}
}

// P2.4
func TestGetOfPut(t *testing.T) {
	after := tails()
	for _, n := range numbers() {
		b := vint.Put(n)
		for _, tail := range after {
			if got, size, e := vint.Get(joined(b, tail)); got != n || size != len(b) || e != api.OK {
				t.Fatalf("Get(% x % x) = %d, %d, %d, want %d, %d, OK", b, tail, got, size, e, n, len(b))
			}
		}
	}
}

// P2.4
func TestGetOfPutsInARow(t *testing.T) {
	var b []byte
	for _, n := range numbers() {
		b = append(b, vint.Put(n)...)
	}
	for _, n := range numbers() {
		got, size, e := vint.Get(b)
		if got != n || e != api.OK {
			t.Fatalf("Get = %d, %d, %d, want %d", got, size, e, n)
		}
		b = b[size:]
	}
	if len(b) != 0 {
		t.Errorf("%d bytes are left", len(b))
	}
}

// P2.4
func TestSmallerNumbersAreNotLonger(t *testing.T) {
	for n := range uint64(70000) {
		checkNotLonger(t, n, n+1)
	}
	for i, e := range edges {
		checkNotLonger(t, e.least, e.largest)
		if i > 0 {
			checkNotLonger(t, edges[i-1].largest, e.least)
		}
	}
	for i := range 63 {
		checkNotLonger(t, 1<<i, 1<<(i+1))
	}
}

func checkNotLonger(t *testing.T, smaller, larger uint64) {
	t.Helper()
	if len(vint.Put(smaller)) > len(vint.Put(larger)) {
		t.Errorf("Put(%d) is longer than Put(%d)", smaller, larger)
	}
	if vint.Size(smaller) > vint.Size(larger) {
		t.Errorf("Size(%d) is above Size(%d)", smaller, larger)
	}
}

// P2.5
func TestFoldAndUnfoldAreInverse(t *testing.T) {
	for _, u := range numbers() {
		if got := vint.Fold(vint.Unfold(u)); got != u {
			t.Fatalf("Fold(Unfold(%d)) = %d", u, got)
		}
		for _, n := range []int64{int64(u), -int64(u)} {
			if got := vint.Unfold(vint.Fold(n)); got != n {
				t.Fatalf("Unfold(Fold(%d)) = %d", n, got)
			}
		}
	}
}

// P2.5
func TestNumbersNearZeroHaveSmallFolds(t *testing.T) {
	for d := range int64(70000) {
		if got := vint.Fold(d); got > uint64(2*d) {
			t.Errorf("Fold(%d) = %d, above %d", d, got, 2*d)
		}
		if got := vint.Fold(-d); got > uint64(2*d) {
			t.Errorf("Fold(%d) = %d, above %d", -d, got, 2*d)
		}
		if vint.Fold(d+1) <= vint.Fold(-d) || vint.Fold(-d-1) <= vint.Fold(d) {
			t.Errorf("%d and its opposite do not lie nearer than %d", d, d+1)
		}
	}
}

// R4, R6
func TestGetLeavesItsArgument(t *testing.T) {
	for _, b := range [][]byte{{0xac, 2, 0x77}, {0xac}, {0x80, 0}, bytes.Repeat([]byte{0xff}, 12)} {
		kept := bytes.Clone(b)
		n, size, e := vint.Get(b)
		vint.Get([]byte{5})
		checkGet(t, b, n, size, e)
		if !bytes.Equal(b, kept) {
			t.Errorf("Get(% x) made it % x", kept, b)
		}
	}
}

// R6
func TestPutAnswersNewMemory(t *testing.T) {
	for _, n := range []uint64{0, 1, 127, 128, 300, math.MaxUint64} {
		first, second := vint.Put(n), vint.Put(n)
		for i := range first {
			first[i] ^= 0xff
		}
		_ = append(first, 0x55, 0x55)
		if want := slowPut(n); !bytes.Equal(second, want) || !bytes.Equal(vint.Put(n), want) {
			t.Errorf("Put(%d) shares memory with another of its results", n)
		}
	}
}
