package pack_test

import (
	"bytes"
	"fmt"
	"math"
	"math/big"
	"testing"

	"trug/api"
	"trug/pack"
)

// slowNum encodes a number as the chapter on layer 2 says, by division, so that it owes nothing to the packages.
func slowNum(n uint64) []byte {
	var b []byte
	for n >= 128 {
		b = append(b, byte(128+n%128))
		n /= 128
	}
	return append(b, byte(n))
}

// slowFold computes with numbers that have no bounds, as the chapter on layer 2 says.
func slowFold(n int64) uint64 {
	x := big.NewInt(n)
	if n >= 0 {
		return x.Mul(x, big.NewInt(2)).Uint64()
	}
	x.Mul(x, big.NewInt(-2))
	return x.Sub(x, big.NewInt(1)).Uint64()
}

func joined(parts ...[]byte) []byte { return bytes.Join(parts, nil) }

// field is a field to write and to read: what it is follows from its type, uint64, int64 or []byte.
type field any

func encoded(f field) []byte {
	switch x := f.(type) {
	case uint64:
		return slowNum(x)
	case int64:
		return slowNum(slowFold(x))
	default:
		b := x.([]byte)
		return joined(slowNum(uint64(len(b))), b)
	}
}

func write(w *pack.Writer, f field) api.Errno {
	switch x := f.(type) {
	case uint64:
		return w.Num(x)
	case int64:
		return w.Int(x)
	default:
		return w.Bytes(x.([]byte))
	}
}

func mustWrite(t *testing.T, w *pack.Writer, fields ...field) {
	t.Helper()
	for i, f := range fields {
		if e := write(w, f); e != api.OK {
			t.Fatalf("field %d (%T of %d bytes): error %d", i, f, len(encoded(f)), e)
		}
	}
}

func checkAll(t *testing.T, w *pack.Writer, want []byte) {
	t.Helper()
	if got, e := w.All(); !bytes.Equal(got, want) || e != api.OK {
		t.Errorf("All = %s, %d, want %s, OK", shown(got), e, shown(want))
	}
}

// shown is the beginning of b: the sequences of some tests fill screens.
func shown(b []byte) string {
	if len(b) > 40 {
		return fmt.Sprintf("% x .. (%d bytes)", b[:40], len(b))
	}
	return fmt.Sprintf("% x", b)
}

// checkWriterRefuses: every call on w returns e, with nothing beside it, however often it is made.
func checkWriterRefuses(t *testing.T, w *pack.Writer, e api.Errno) {
	t.Helper()
	for range 3 {
		for _, f := range []field{uint64(0), uint64(math.MaxUint64), int64(0), int64(-1), []byte(nil), []byte{7}, make([]byte, 70000)} {
			if got := write(w, f); got != e {
				t.Errorf("%T: error %d, want %d", f, got, e)
			}
		}
		if b, got := w.All(); len(b) != 0 || got != e {
			t.Errorf("All = %d bytes, error %d, want none, %d", len(b), got, e)
		}
	}
}

// checkReaderRefuses: every call on r returns e, with nothing beside it, however often it is made.
func checkReaderRefuses(t *testing.T, r *pack.Reader, e api.Errno) {
	t.Helper()
	for range 3 {
		if n, got := r.Num(); n != 0 || got != e {
			t.Errorf("Num = %d, %d, want 0, %d", n, got, e)
		}
		if n, got := r.Int(); n != 0 || got != e {
			t.Errorf("Int = %d, %d, want 0, %d", n, got, e)
		}
		if b, got := r.Bytes(); len(b) != 0 || got != e {
			t.Errorf("Bytes = % x, %d, want nothing, %d", b, got, e)
		}
		if r.Done() {
			t.Error("Done behind an error")
		}
	}
}

func checkField(t *testing.T, r *pack.Reader, f field) {
	t.Helper()
	switch want := f.(type) {
	case uint64:
		if n, e := r.Num(); n != want || e != api.OK {
			t.Fatalf("Num = %d, %d, want %d, OK", n, e, want)
		}
	case int64:
		if n, e := r.Int(); n != want || e != api.OK {
			t.Fatalf("Int = %d, %d, want %d, OK", n, e, want)
		}
	case []byte:
		if b, e := r.Bytes(); !bytes.Equal(b, want) || e != api.OK {
			t.Fatalf("Bytes = %s, %d, want %s, OK", shown(b), e, shown(want))
		}
	}
}

// readers are the three calls that consume a field; each returns whether what came beside the error was nothing.
var readers = []struct {
	name string
	call func(r *pack.Reader) (bool, api.Errno)
}{
	{"Num", func(r *pack.Reader) (bool, api.Errno) { n, e := r.Num(); return n == 0, e }},
	{"Int", func(r *pack.Reader) (bool, api.Errno) { n, e := r.Int(); return n == 0, e }},
	{"Bytes", func(r *pack.Reader) (bool, api.Errno) { b, e := r.Bytes(); return len(b) == 0, e }},
}

// sequence makes n bytes that look irregular, unlike ones for each seed.
func sequence(n int, seed uint32) []byte {
	b := make([]byte, n)
	x := seed*2654435761 + 12345
	for i := range b {
		x = x*1664525 + 1013904223
		b[i] = byte(x >> 24)
	}
	return b
}

// filled is a writer of just n bytes (16387 at least), and these bytes.
func filled(t *testing.T, n int) (*pack.Writer, []byte) {
	t.Helper()
	w := pack.New()
	f := sequence(n-3, uint32(n))
	mustWrite(t, w, f)
	all := encoded(f)
	if len(all) != n {
		t.Fatalf("the length of the byte sequence does not take three bytes: %d bytes, not %d", len(all), n)
	}
	return w, all
}

// edgeFields are the edges of all kinds of fields, of every length of their numbers.
func edgeFields() []field {
	l := []field{uint64(0), uint64(1), uint64(300), uint64(math.MaxUint64), int64(0), int64(-1), int64(1), int64(math.MaxInt64), int64(math.MinInt64)}
	for i := range 64 {
		l = append(l, uint64(1)<<i, uint64(1)<<i-1, int64(1)<<i, int64(1)<<i-1, -(int64(1) << i))
	}
	for _, n := range []int{0, 1, 2, 127, 128, 129, 255, 256, 16383, 16384} {
		l = append(l, sequence(n, uint32(n)))
	}
	return append(l, []byte(nil), []byte{}, []byte("ab"), []byte{0}, []byte{0xff}, []byte{0x80, 0})
}

// irregularFields are n fields of all kinds in an irregular order, of few bytes each.
func irregularFields(n int, seed uint64) []field {
	var l []field
	x := seed*2862933555777941757 + 88172645463325252
	for range n {
		x ^= x << 13
		x ^= x >> 7
		x ^= x << 17
		size := x >> 58
		switch x >> 20 % 3 {
		case 0:
			l = append(l, x>>size)
		case 1:
			l = append(l, int64(x)>>size)
		default:
			l = append(l, sequence(int(size), uint32(x)))
		}
	}
	return l
}

// P3.1
func TestWriterOfKnownFields(t *testing.T) {
	w := pack.New()
	checkAll(t, w, nil)
	mustWrite(t, w, uint64(300))
	checkAll(t, w, []byte{0xac, 2})
	mustWrite(t, w, int64(-1))
	checkAll(t, w, []byte{0xac, 2, 1})
	mustWrite(t, w, []byte("ab"))
	checkAll(t, w, []byte{0xac, 2, 1, 2, 'a', 'b'})
	checkAll(t, w, []byte{0xac, 2, 1, 2, 'a', 'b'})
}

// P3.1
func TestWriterOfSingleFields(t *testing.T) {
	for _, c := range []struct {
		f    field
		want []byte
	}{
		{uint64(0), []byte{0}},
		{uint64(127), []byte{0x7f}},
		{uint64(128), []byte{0x80, 1}},
		{uint64(math.MaxUint64), []byte{0xff, 0xff, 0xff, 0xff, 0xff, 0xff, 0xff, 0xff, 0xff, 1}},
		{int64(0), []byte{0}},
		{int64(1), []byte{2}},
		{int64(-64), []byte{0x7f}},
		{int64(64), []byte{0x80, 1}},
		{int64(math.MinInt64), []byte{0xff, 0xff, 0xff, 0xff, 0xff, 0xff, 0xff, 0xff, 0xff, 1}},
		{int64(math.MaxInt64), []byte{0xfe, 0xff, 0xff, 0xff, 0xff, 0xff, 0xff, 0xff, 0xff, 1}},
		{[]byte{0x80}, []byte{1, 0x80}},
		{bytes.Repeat([]byte{'x'}, 127), joined([]byte{0x7f}, bytes.Repeat([]byte{'x'}, 127))},
		{bytes.Repeat([]byte{'x'}, 128), joined([]byte{0x80, 1}, bytes.Repeat([]byte{'x'}, 128))},
		{bytes.Repeat([]byte{'x'}, 16384), joined([]byte{0x80, 0x80, 1}, bytes.Repeat([]byte{'x'}, 16384))},
	} {
		w := pack.New()
		mustWrite(t, w, c.f)
		checkAll(t, w, c.want)
	}
}

// P3.1, R8
func TestWriterOfEmptyByteSequences(t *testing.T) {
	w := pack.New()
	mustWrite(t, w, []byte(nil), []byte{}, make([]byte, 0, 9), []byte{1, 2}[2:])
	checkAll(t, w, []byte{0, 0, 0, 0})
}

// P3.1
func TestWriterAgainstWords(t *testing.T) {
	for _, f := range edgeFields() {
		w := pack.New()
		mustWrite(t, w, f)
		checkAll(t, w, encoded(f))
	}
	for seed := range uint64(200) {
		w := pack.New()
		var want []byte
		for _, f := range irregularFields(40, seed) {
			mustWrite(t, w, f)
			want = append(want, encoded(f)...)
			checkAll(t, w, want)
		}
	}
}

// P3.1: the field ends at the limit, or one byte behind it.
func TestWriterAtTheLimit(t *testing.T) {
	for _, f := range []field{
		uint64(0), uint64(127), uint64(128), uint64(math.MaxUint64),
		int64(0), int64(-64), int64(64), int64(math.MinInt64), int64(math.MaxInt64),
		[]byte(nil), []byte{}, []byte{7}, []byte("ab"), sequence(127, 1), sequence(128, 1), sequence(30000, 1),
	} {
		size := len(encoded(f))
		w, all := filled(t, 65536-size)
		mustWrite(t, w, f)
		checkAll(t, w, joined(all, encoded(f)))
		for _, more := range []field{uint64(0), int64(0), []byte(nil)} {
			w, _ := filled(t, 65536-size)
			mustWrite(t, w, f)
			if e := write(w, more); e != api.ErrBig {
				t.Errorf("%T behind 65536 bytes: error %d, want ErrBig", more, e)
			}
			checkWriterRefuses(t, w, api.ErrBig)
		}
		w, _ = filled(t, 65536-size+1)
		if e := write(w, f); e != api.ErrBig {
			t.Errorf("%T of %d bytes behind %d: error %d, want ErrBig", f, size, 65536-size+1, e)
		}
		checkWriterRefuses(t, w, api.ErrBig)
	}
}

// P3.1: the length of a byte sequence counts as well.
func TestWriterOfOneLongByteSequence(t *testing.T) {
	w := pack.New()
	mustWrite(t, w, sequence(65533, 3))
	checkAll(t, w, joined([]byte{0xfd, 0xff, 3}, sequence(65533, 3)))
	for _, n := range []int{65534, 65535, 65536, 65537, 131072, 1 << 24} {
		w := pack.New()
		if e := w.Bytes(make([]byte, n)); e != api.ErrBig {
			t.Errorf("Bytes of %d: error %d, want ErrBig", n, e)
		}
		checkWriterRefuses(t, w, api.ErrBig)
	}
}

// P3.1: many small fields reach the limit too.
func TestWriterOfManyFields(t *testing.T) {
	w := pack.New()
	for i := range 65536 {
		if e := w.Num(uint64(i % 128)); e != api.OK {
			t.Fatalf("number %d: error %d", i, e)
		}
	}
	if all, e := w.All(); len(all) != 65536 || e != api.OK {
		t.Fatalf("All = %d bytes, error %d", len(all), e)
	}
	if e := w.Num(0); e != api.ErrBig {
		t.Errorf("Num: error %d, want ErrBig", e)
	}
}

// P3.1: calls that there would be room for return the first error, too.
func TestWriterKeepsItsFirstError(t *testing.T) {
	for _, fails := range []field{uint64(128), int64(64), []byte{1}, make([]byte, 70000)} {
		for _, later := range []field{uint64(5), int64(-5), []byte(nil)} {
			w, _ := filled(t, 65535)
			if e := write(w, fails); e != api.ErrBig {
				t.Fatalf("%T: error %d, want ErrBig", fails, e)
			}
			if e := write(w, later); e != api.ErrBig {
				t.Errorf("%T behind an error: error %d, want ErrBig", later, e)
			}
			checkWriterRefuses(t, w, api.ErrBig)
		}
	}
	w := pack.New()
	mustWrite(t, w, uint64(1))
	w.Bytes(make([]byte, 70000))
	checkWriterRefuses(t, w, api.ErrBig)
}

// P3.1, R7
func TestWriterThatNewDidNotCreate(t *testing.T) {
	var zero pack.Writer
	for _, w := range []*pack.Writer{nil, &zero, new(pack.Writer), {}} {
		checkWriterRefuses(t, w, api.ErrNil)
	}
}

// P3.1, R4
func TestWritersAreApart(t *testing.T) {
	one, two, bad := pack.New(), pack.New(), pack.New()
	mustWrite(t, one, uint64(1))
	mustWrite(t, two, uint64(2))
	bad.Bytes(make([]byte, 70000))
	mustWrite(t, one, []byte("x"))
	checkAll(t, one, []byte{1, 1, 'x'})
	checkAll(t, two, []byte{2})
	checkAll(t, pack.New(), nil)
}

// P3.2
func TestReaderOfKnownBytes(t *testing.T) {
	r := pack.Read([]byte{0xac, 2, 1, 2, 'a', 'b'})
	for _, f := range []field{uint64(300), int64(-1), []byte("ab")} {
		if r.Done() {
			t.Error("Done ahead of the last field")
		}
		checkField(t, r, f)
	}
	if !r.Done() || !r.Done() {
		t.Error("not Done behind the last field")
	}
	checkReaderRefuses(t, r, api.ErrShort)
}

// P3.2: the same bytes are whatever kind is asked for.
func TestReaderOfOneByteByEachCall(t *testing.T) {
	for c := range uint64(128) {
		b := joined([]byte{byte(c)}, sequence(200, uint32(c)))
		checkField(t, pack.Read(b), c)
		if c%2 == 0 {
			checkField(t, pack.Read(b), int64(c/2))
		} else {
			checkField(t, pack.Read(b), -int64(c+1)/2)
		}
		checkField(t, pack.Read(b), b[1:1+c])
	}
}

// P3.2: a reader has no limit of its own.
func TestReaderOfManyBytes(t *testing.T) {
	long := sequence(200000, 5)
	r := pack.Read(joined(encoded(long), encoded(int64(-9))))
	checkField(t, r, long)
	checkField(t, r, int64(-9))
	if !r.Done() {
		t.Error("not Done")
	}
}

// P3.2: each call, at the beginning and behind other fields, returns the error of vint.Get, and keeps it.
func TestReaderOfWrongNumbers(t *testing.T) {
	high := func(n int) []byte { return bytes.Repeat([]byte{0xff}, n) }
	for _, c := range []struct {
		b []byte
		e api.Errno
	}{
		{nil, api.ErrShort},
		{[]byte{}, api.ErrShort},
		{[]byte{0xac}, api.ErrShort},
		{[]byte{0x80, 0x80}, api.ErrShort},
		{high(9), api.ErrShort},
		{[]byte{0x80, 0}, api.ErrForm},
		{[]byte{0x80, 0, 1, 1, 1}, api.ErrForm},
		{[]byte{0x81, 0x80, 0}, api.ErrForm},
		{high(10), api.ErrForm},
		{high(30), api.ErrForm},
		{joined(high(9), []byte{0}), api.ErrForm},
		{joined(high(9), []byte{2, 1, 1}), api.ErrForm},
	} {
		for _, ahead := range [][]field{nil, {uint64(300)}, {[]byte("abc"), int64(-5)}} {
			for _, call := range readers {
				var b []byte
				for _, f := range ahead {
					b = append(b, encoded(f)...)
				}
				r := pack.Read(append(b, c.b...))
				for _, f := range ahead {
					checkField(t, r, f)
				}
				if none, e := call.call(r); !none || e != c.e {
					t.Errorf("%s of % x: error %d, nothing beside it %v, want %d", call.name, c.b, e, none, c.e)
				}
				checkReaderRefuses(t, r, c.e)
			}
		}
	}
}

// P3.2
func TestReaderOfTooFewBytes(t *testing.T) {
	for n := range 300 {
		whole := encoded(sequence(n, uint32(n)))
		checkField(t, pack.Read(whole), sequence(n, uint32(n)))
		if n == 0 {
			continue
		}
		r := pack.Read(whole[:len(whole)-1])
		if b, e := r.Bytes(); len(b) != 0 || e != api.ErrShort {
			t.Errorf("Bytes of %d, one less than its number says = %d bytes, error %d, want ErrShort", n-1, len(b), e)
		}
		checkReaderRefuses(t, r, api.ErrShort)
	}
}

// P3.2: numbers that do not fit into an int, or that would wrap round behind the number's own bytes.
func TestReaderOfNumbersAboveAnyLength(t *testing.T) {
	var numbers []uint64
	for i := 8; i < 64; i++ {
		numbers = append(numbers, 1<<i-1, 1<<i, 1<<i+1, 1<<i+5)
	}
	for i := range uint64(20) {
		numbers = append(numbers, math.MaxUint64-i, math.MaxInt64-i, math.MaxInt64+i)
	}
	for _, n := range numbers {
		for _, tail := range [][]byte{nil, {1}, {1, 2, 3, 4, 5}} {
			r := pack.Read(joined(slowNum(n), tail))
			if b, e := r.Bytes(); len(b) != 0 || e != api.ErrShort {
				t.Errorf("Bytes of %d, where it says %d = %d bytes, error %d, want ErrShort", len(tail), n, len(b), e)
			}
			checkReaderRefuses(t, r, api.ErrShort)
		}
	}
}

// P3.2: what remains would be read otherwise, and is not.
func TestReaderKeepsItsFirstError(t *testing.T) {
	for _, c := range []struct {
		b []byte
		e api.Errno
	}{
		{[]byte{5, 0x80, 0}, api.ErrShort},
		{[]byte{5, 1, 1}, api.ErrShort},
		{[]byte{1}, api.ErrShort},
		{[]byte{0x80, 0}, api.ErrForm},
		{[]byte{0x80, 0, 3, 1}, api.ErrForm},
	} {
		r := pack.Read(c.b)
		if _, e := r.Bytes(); e != c.e {
			t.Errorf("Bytes of % x: error %d, want %d", c.b, e, c.e)
		}
		checkReaderRefuses(t, r, c.e)
	}
}

// P3.2, R7
func TestReaderThatReadDidNotCreate(t *testing.T) {
	var zero pack.Reader
	for _, r := range []*pack.Reader{nil, &zero, new(pack.Reader), {}} {
		if r.Done() {
			t.Error("Done of a reader that Read did not create")
		}
		checkReaderRefuses(t, r, api.ErrNil)
	}
}

// P3.2, R8
func TestDone(t *testing.T) {
	for _, b := range [][]byte{nil, {}, make([]byte, 0, 5), []byte{1, 2}[2:]} {
		r := pack.Read(b)
		if !r.Done() {
			t.Error("not Done at the beginning of nothing")
		}
		r.Num()
		if r.Done() {
			t.Error("Done behind an error")
		}
	}
	r := pack.Read([]byte{0, 0, 0})
	for _, f := range []field{uint64(0), int64(0), []byte(nil)} {
		if r.Done() || r.Done() {
			t.Error("Done ahead of the last field")
		}
		checkField(t, r, f)
	}
	if !r.Done() {
		t.Error("not Done behind the last field")
	}
	if r := pack.Read([]byte{1}); r.Done() {
		t.Error("Done at the beginning of a byte")
	}
}

// P3.2, R4
func TestReadersAreApart(t *testing.T) {
	b := []byte{1, 2, 3}
	one, two := pack.Read(b), pack.Read(b)
	checkField(t, one, uint64(1))
	checkField(t, one, uint64(2))
	checkField(t, two, uint64(1))
	if _, e := pack.Read([]byte{0x80, 0}).Num(); e != api.ErrForm {
		t.Errorf("error %d, want ErrForm", e)
	}
	checkField(t, one, uint64(3))
	checkField(t, two, uint64(2))
	if !one.Done() || two.Done() {
		t.Error("Done of one reader hangs on another")
	}
}

func checkBack(t *testing.T, fields []field) {
	t.Helper()
	w := pack.New()
	mustWrite(t, w, fields...)
	b, e := w.All()
	if e != api.OK {
		t.Fatalf("All: error %d", e)
	}
	r := pack.Read(b)
	for _, f := range fields {
		if r.Done() {
			t.Error("Done ahead of the last field")
		}
		checkField(t, r, f)
	}
	if !r.Done() {
		t.Error("not Done behind the last field")
	}
}

// P3.3
func TestBack(t *testing.T) {
	checkBack(t, nil)
	checkBack(t, edgeFields())
	for _, f := range edgeFields() {
		checkBack(t, []field{f})
	}
	checkBack(t, []field{sequence(65533, 8)})
	checkBack(t, []field{uint64(1), sequence(65531, 8), int64(-1)})
	for seed := range uint64(500) {
		checkBack(t, irregularFields(int(seed), seed))
	}
}

// spoil writes to all of b, and behind it where there is room.
func spoil(b []byte) {
	for i := range b {
		b[i] ^= 0xff
	}
	for b = b[:cap(b)]; len(b) > 0; b = b[1:] {
		b[0] ^= 0x55
	}
}

// R6
func TestWriterLeavesItsArguments(t *testing.T) {
	for _, n := range []int{1, 5, 127, 128, 20000, 65533} {
		b := append(make([]byte, 0, n+50), sequence(n, 2)...)
		behind := bytes.Clone(b[:cap(b)])
		w := pack.New()
		mustWrite(t, w, b)
		if !bytes.Equal(b[:cap(b)], behind) {
			t.Error("Bytes changed its argument")
		}
		spoil(b)
		checkAll(t, w, encoded(sequence(n, 2)))
	}
}

// R6
func TestWriterAnswersNewMemory(t *testing.T) {
	w := pack.New()
	var want []byte
	for i, f := range irregularFields(200, 4) {
		mustWrite(t, w, f)
		want = append(want, encoded(f)...)
		one, _ := w.All()
		two, _ := w.All()
		spoil(one)
		if !bytes.Equal(two, want) {
			t.Fatalf("behind field %d: two results of All share memory", i)
		}
		mustWrite(t, w, uint64(i))
		want = append(want, encoded(uint64(i))...)
		spoil(two)
		checkAll(t, w, want)
	}
}

// R6: what All returned stays as it is while the writer goes on.
func TestWriterGoesOnBehindItsAnswers(t *testing.T) {
	w := pack.New()
	mustWrite(t, w, []byte("ab"))
	early, _ := w.All()
	early = append(early, 'x')
	mustWrite(t, w, uint64(9))
	if string(early) != "\x02abx" {
		t.Errorf("a result of All became % x", early)
	}
	checkAll(t, w, []byte{2, 'a', 'b', 9})
}

// R6
func TestReaderLeavesItsArgument(t *testing.T) {
	fields := irregularFields(60, 6)
	var b []byte
	for _, f := range fields {
		b = append(b, encoded(f)...)
	}
	kept := bytes.Clone(b)
	for at := range fields {
		b := bytes.Clone(kept)
		r := pack.Read(b)
		for i, f := range fields {
			if i == at {
				if !bytes.Equal(b, kept) {
					t.Fatal("a reader changed its argument")
				}
				spoil(b)
			}
			checkField(t, r, f)
		}
	}
}

// R6
func TestReaderAnswersNewMemory(t *testing.T) {
	source := []byte{2, 'a', 'b', 0, 3, 'c', 'd', 'e', 9}
	r := pack.Read(source)
	one, _ := r.Bytes()
	spoil(one)
	_ = append(one, 0x77, 0x77, 0x77)
	empty, _ := r.Bytes()
	_ = append(empty, 0x77, 0x77, 0x77)
	two, _ := r.Bytes()
	if string(two) != "cde" {
		t.Errorf("Bytes = %q, want cde", two)
	}
	_ = append(two, 0x77)
	checkField(t, r, uint64(9))
	if !r.Done() || string(source) != "\x02ab\x00\x03cde\x09" {
		t.Error("writing to a result has an effect on the reader or its bytes")
	}
}
