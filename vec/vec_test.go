package vec_test

import (
	"bytes"
	"math"
	"testing"

	"trug/api"
	"trug/vec"
)

const top = math.MaxUint32

// The slow functions read the chapter word by word, number by number, so that they owe nothing to the package.

func slowBelow(a, b api.Vec) bool {
	for i := 0; i < 16; i++ {
		if a[i] > b[i] {
			return false
		}
	}
	return true
}

func slowOrder(a, b api.Vec) int {
	ab, ba := slowBelow(a, b), slowBelow(b, a)
	switch {
	case ab && ba:
		return 0
	case ab:
		return -1
	case ba:
		return 1
	}
	return 2
}

func slowHas(v api.Vec, d api.Dot) bool {
	if int(d.Rep) >= 16 || d.Seq < 1 || d.Seq > 1048576 {
		return false
	}
	return uint64(v[d.Rep]) >= uint64(d.Seq)
}

func slowNext(v api.Vec, d api.Dot) (api.Vec, api.Errno) {
	if int(d.Rep) >= 16 || d.Seq < 1 || d.Seq > 1048576 {
		return api.Vec{}, api.ErrArg
	}
	if slowHas(v, d) {
		return api.Vec{}, api.ErrHave
	}
	if uint64(d.Seq) > uint64(v[d.Rep])+1 {
		return api.Vec{}, api.ErrGap
	}
	v[d.Rep]++
	return v, api.OK
}

// slowNum encodes a number as the chapter on layer 2 says, by division.
func slowNum(n uint64) []byte {
	var b []byte
	for n >= 128 {
		b = append(b, byte(128+n%128))
		n /= 128
	}
	return append(b, byte(n))
}

func slowEncode(v api.Vec) []byte {
	count := 0
	for i := 0; i < 16; i++ {
		if v[i] != 0 {
			count = i + 1
		}
	}
	b := slowNum(uint64(count))
	for i := 0; i < count; i++ {
		b = append(b, slowNum(uint64(v[i]))...)
	}
	return b
}

// fields encodes numbers one behind the other, whether or not they are those of a vector.
func fields(numbers ...uint64) []byte {
	var b []byte
	for _, n := range numbers {
		b = append(b, slowNum(n)...)
	}
	return b
}

// just is the vector whose number at index i alone is not 0.
func just(i int, number uint32) api.Vec {
	var v api.Vec
	v[i] = number
	return v
}

// full is the vector of 16 times the same number.
func full(number uint32) api.Vec {
	var v api.Vec
	for i := range v {
		v[i] = number
	}
	return v
}

// irregular makes n vectors with small numbers, so that many of them are below one another or have numbers in common.
func irregular(n int, seed uint64, numbers uint64) []api.Vec {
	x := seed*2862933555777941757 + 88172645463325252
	l := make([]api.Vec, n)
	for i := range l {
		for j := range l[i] {
			x ^= x << 13
			x ^= x >> 7
			x ^= x << 17
			if x>>40%3 == 0 {
				l[i][j] = uint32(x >> 20 % numbers)
			}
		}
	}
	return l
}

// someVecs are vectors of all kinds: edges, chains of which each is below the next, and ones that are not below each other.
func someVecs() []api.Vec {
	l := []api.Vec{
		{}, {1}, {1, 2}, {1, 3}, {2, 1}, {2, 3}, {0, 5}, {15: 1}, {14: 1}, {14: 1, 15: 1}, {1, 15: 1},
		{1, 5, 0, 7}, {2, 3, 0, 7}, {top}, {15: top}, {top - 1}, {1 << 20}, {1<<20 + 1}, {1 << 31}, {1<<31 - 1}, {1<<31 + 1},
		full(1), full(2), full(1 << 20), full(1<<20 + 1), full(top), full(top - 1),
	}
	for i := range 16 {
		l = append(l, just(i, 1), just(i, 2), just(i, top))
		v := full(1)
		v[i] = 0
		l = append(l, v)
	}
	l = append(l, irregular(12, 1, 3)...)
	return append(l, irregular(12, 2, top+1)...)
}

func checkOrder(t *testing.T, a, b api.Vec, want int) {
	t.Helper()
	if got := vec.Order(a, b); got != want {
		t.Errorf("Order(%v, %v) = %d, want %d", a, b, got, want)
	}
}

// P4.1 (Right): n in the range 1 to 16.
func TestRightCount(t *testing.T) {
	for _, n := range []int{math.MinInt, -16, -1, 0, 17, 18, 32, 256, math.MaxInt} {
		for _, v := range []api.Vec{{}, {1}, full(1)} {
			if vec.Right(v, n) {
				t.Errorf("Right(%v, %d)", v, n)
			}
		}
	}
	for n := 1; n <= 16; n++ {
		if !vec.Right(api.Vec{}, n) {
			t.Errorf("Right of the zero vector, %d: false", n)
		}
	}
	if !vec.Right(api.Vec{7}, 1) || !vec.Right(full(7), 16) || vec.Right(full(7), 15) {
		t.Error("Right for 1, 15 or 16 replicas")
	}
}

// P4.1 (Right): the numbers at indices from n on are 0.
func TestRightIndex(t *testing.T) {
	for n := 1; n <= 16; n++ {
		for i := range 16 {
			if got := vec.Right(just(i, 1), n); got != (i < n) {
				t.Errorf("Right of a vector with a number at index %d alone, %d: %v", i, n, got)
			}
		}
	}
}

// P4.1 (Right): all numbers are at most MaxSeq.
func TestRightNumber(t *testing.T) {
	for i := range 16 {
		for _, c := range []struct {
			number uint32
			want   bool
		}{{0, true}, {1, true}, {1<<20 - 1, true}, {1 << 20, true}, {1<<20 + 1, false}, {1 << 31, false}, {top, false}} {
			for n := i + 1; n <= 16; n++ {
				if got := vec.Right(just(i, c.number), n); got != c.want {
					t.Errorf("Right of %d at index %d, %d: %v", c.number, i, n, got)
				}
			}
		}
	}
	if !vec.Right(full(1<<20), 16) || vec.Right(full(1<<20+1), 16) {
		t.Error("Right of 16 numbers about MaxSeq")
	}
}

// P4.1 (Order): the values of its results, and the document's examples.
func TestOrderExamples(t *testing.T) {
	if vec.Less != -1 || vec.Same != 0 || vec.Greater != 1 || vec.Unlike != 2 {
		t.Error("the constants are not those of the chapter")
	}
	checkOrder(t, api.Vec{1, 2}, api.Vec{1, 3}, vec.Less)
	checkOrder(t, api.Vec{1, 3}, api.Vec{1, 2}, vec.Greater)
	checkOrder(t, api.Vec{1, 2}, api.Vec{2, 1}, vec.Unlike)
	checkOrder(t, api.Vec{2, 1}, api.Vec{1, 2}, vec.Unlike)
	checkOrder(t, api.Vec{1, 2}, api.Vec{1, 2}, vec.Same)
	checkOrder(t, api.Vec{2, 1}, api.Vec{2, 1}, vec.Same)
	checkOrder(t, api.Vec{}, api.Vec{}, vec.Same)
	checkOrder(t, api.Vec{15: top}, api.Vec{15: 1}, vec.Greater)
	checkOrder(t, api.Vec{1, 15: 2}, api.Vec{1, 15: 3}, vec.Less)
	checkOrder(t, api.Vec{1, 15: 3}, api.Vec{2, 15: 2}, vec.Unlike)
}

// P4.1 (Below): of a vector and itself, and where the two differ at one index alone.
func TestBelowEdges(t *testing.T) {
	for _, v := range someVecs() {
		if !vec.Below(v, v) {
			t.Errorf("%v is not below itself", v)
		}
		for i := range v {
			if v[i] == top {
				continue
			}
			w := v
			w[i]++
			if !vec.Below(v, w) || vec.Below(w, v) {
				t.Errorf("Below of %v and %v: %v, turned: %v", v, w, vec.Below(v, w), vec.Below(w, v))
			}
		}
	}
	if vec.Below(api.Vec{1 << 31}, api.Vec{1}) || !vec.Below(api.Vec{1}, api.Vec{1 << 31}) {
		t.Error("Below takes numbers of 2^31 and more for negative ones")
	}
}

// P4.1 (Below, Order) held against the chapter's words, over all pairs; the pairs must be of all four kinds.
func TestBelowAndOrder(t *testing.T) {
	seen := map[int]int{}
	for _, a := range someVecs() {
		for _, b := range someVecs() {
			want := slowOrder(a, b)
			seen[want]++
			checkOrder(t, a, b, want)
			if got := vec.Below(a, b); got != slowBelow(a, b) {
				t.Errorf("Below(%v, %v) = %v", a, b, got)
			}
		}
	}
	for _, o := range []int{vec.Less, vec.Same, vec.Greater, vec.Unlike} {
		if seen[o] < 50 {
			t.Errorf("only %d pairs with the order %d", seen[o], o)
		}
	}
}

// P4.2 (Join, Meet).
func TestJoinAndMeet(t *testing.T) {
	a, b := api.Vec{1, 5, 0, 7, 15: 9}, api.Vec{2, 3, 0, 7, 14: 4, 15: top}
	if got := vec.Join(a, b); got != (api.Vec{2, 5, 0, 7, 14: 4, 15: top}) {
		t.Errorf("Join = %v", got)
	}
	if got := vec.Meet(a, b); got != (api.Vec{1, 3, 0, 7, 15: 9}) {
		t.Errorf("Meet = %v", got)
	}
	for _, a := range someVecs() {
		for _, b := range someVecs() {
			join, meet := vec.Join(a, b), vec.Meet(a, b)
			for i := range a {
				high, low := a[i], b[i]
				if high < low {
					high, low = low, high
				}
				if join[i] != high || meet[i] != low {
					t.Fatalf("Join and Meet of %v and %v: %v and %v", a, b, join, meet)
				}
			}
		}
	}
}

// P4.2 (Sum), also where it is above 2^32.
func TestSum(t *testing.T) {
	for _, c := range []struct {
		v    api.Vec
		want uint64
	}{
		{api.Vec{}, 0}, {api.Vec{1, 5, 0, 7}, 13}, {api.Vec{15: 3}, 3}, {api.Vec{1, 15: 3}, 4},
		{api.Vec{15: top}, 4294967295}, {api.Vec{top, 15: 1}, 4294967296}, {api.Vec{7: 1, 15: top}, 4294967296},
		{api.Vec{top, top}, 8589934590}, {full(1), 16}, {full(1 << 20), 16777216}, {full(top), 68719476720},
	} {
		if got := vec.Sum(c.v); got != c.want {
			t.Errorf("Sum(%v) = %d, want %d", c.v, got, c.want)
		}
	}
}

// edgeDots are dots at the edges of what is valid, beside small ones.
func edgeDots() []api.Dot {
	var l []api.Dot
	for _, rep := range []uint8{0, 1, 2, 14, 15, 16, 17, 31, 32, 127, 128, 255} {
		for _, seq := range []uint32{0, 1, 2, 3, 4, 1<<20 - 1, 1 << 20, 1<<20 + 1, 1<<20 + 2, 1 << 31, top - 1, top} {
			l = append(l, api.Dot{Rep: rep, Seq: seq})
		}
	}
	return l
}

// P4.3 (Has).
func TestHas(t *testing.T) {
	for _, c := range []struct {
		v    api.Vec
		d    api.Dot
		want bool
	}{
		{api.Vec{1, 2}, api.Dot{Rep: 1, Seq: 1}, true}, {api.Vec{1, 2}, api.Dot{Rep: 1, Seq: 2}, true}, {api.Vec{1, 2}, api.Dot{Rep: 1, Seq: 3}, false},
		{api.Vec{1, 2}, api.Dot{Rep: 0, Seq: 2}, false}, {api.Vec{1, 2}, api.Dot{Rep: 2, Seq: 1}, false},
		{full(top), api.Dot{Rep: 15, Seq: 1}, true}, {full(top), api.Dot{Rep: 16, Seq: 1}, false}, {full(top), api.Dot{Rep: 255, Seq: 1}, false},
		{full(top), api.Dot{Rep: 15, Seq: 0}, false}, {api.Vec{}, api.Dot{}, false}, {api.Vec{15: 1}, api.Dot{Rep: 15, Seq: 1}, true},
		{full(top), api.Dot{Rep: 15, Seq: 1 << 20}, true}, {full(top), api.Dot{Rep: 15, Seq: 1<<20 + 1}, false}, {full(top), api.Dot{Rep: 0, Seq: top}, false},
		{full(1<<20 - 1), api.Dot{Rep: 15, Seq: 1 << 20}, false}, {full(1 << 20), api.Dot{Rep: 15, Seq: 1 << 20}, true},
	} {
		if got := vec.Has(c.v, c.d); got != c.want {
			t.Errorf("Has(%v, %v) = %v, want %v", c.v, c.d, got, c.want)
		}
	}
	for _, v := range someVecs() {
		for _, d := range edgeDots() {
			if got := vec.Has(v, d); got != slowHas(v, d) {
				t.Errorf("Has(%v, %v) = %v", v, d, got)
			}
		}
	}
}

func checkNext(t *testing.T, v api.Vec, d api.Dot, want api.Vec, wantErr api.Errno) {
	t.Helper()
	if got, e := vec.Next(v, d); got != want || e != wantErr {
		t.Errorf("Next(%v, %v) = %v, %d, want %v, %d", v, d, got, e, want, wantErr)
	}
}

// P4.3 (Next): the document's examples and the edges of what is valid; R3: the zero vector beside each error.
func TestNextExamples(t *testing.T) {
	none := api.Vec{}
	checkNext(t, api.Vec{1, 2}, api.Dot{Rep: 1, Seq: 3}, api.Vec{1, 3}, api.OK)
	checkNext(t, api.Vec{1, 2}, api.Dot{Rep: 0, Seq: 3}, none, api.ErrGap)
	checkNext(t, api.Vec{1, 2}, api.Dot{Rep: 0, Seq: 2}, api.Vec{2, 2}, api.OK)
	checkNext(t, api.Vec{1, 2}, api.Dot{Rep: 1, Seq: 2}, none, api.ErrHave)
	checkNext(t, api.Vec{1, 2}, api.Dot{Rep: 1, Seq: 1}, none, api.ErrHave)
	checkNext(t, api.Vec{1, 2}, api.Dot{Rep: 1, Seq: 0}, none, api.ErrArg)
	checkNext(t, api.Vec{1, 2}, api.Dot{Rep: 15, Seq: 1}, api.Vec{1, 2, 15: 1}, api.OK)
	checkNext(t, api.Vec{1, 2}, api.Dot{Rep: 15, Seq: 2}, none, api.ErrGap)
	checkNext(t, api.Vec{1, 2}, api.Dot{Rep: 16, Seq: 1}, none, api.ErrArg)
	checkNext(t, api.Vec{1, 2}, api.Dot{Rep: 0, Seq: 1 << 20}, none, api.ErrGap)
	checkNext(t, api.Vec{1, 1<<20 - 1}, api.Dot{Rep: 1, Seq: 1 << 20}, api.Vec{1, 1 << 20}, api.OK)
	checkNext(t, api.Vec{1, 1<<20 - 2}, api.Dot{Rep: 1, Seq: 1 << 20}, none, api.ErrGap)
	checkNext(t, api.Vec{1, 1 << 20}, api.Dot{Rep: 1, Seq: 1 << 20}, none, api.ErrHave)
	checkNext(t, api.Vec{1, 1 << 20}, api.Dot{Rep: 1, Seq: 1<<20 + 1}, none, api.ErrArg)
	checkNext(t, full(top), api.Dot{Rep: 3, Seq: 1 << 20}, none, api.ErrHave)
}

// P4.3 (Next), R2: a dot that is not valid is ErrArg, also where v has a number that great and where it is far above.
func TestNextFirstError(t *testing.T) {
	none := api.Vec{}
	for _, v := range []api.Vec{{}, {1, 2}, full(1 << 20), full(1<<20 + 1), full(top)} {
		for _, d := range []api.Dot{{Rep: 0}, {Rep: 15}, {Rep: 16}, {Rep: 16, Seq: 1}, {Rep: 255, Seq: top}, {Rep: 0, Seq: 1<<20 + 1}, {Rep: 15, Seq: top}, {Rep: 16, Seq: 1<<20 + 1}} {
			checkNext(t, v, d, none, api.ErrArg)
		}
	}
}

// P4.3 (Next) held against the chapter's words; R6: the vector that was passed in is as it was.
func TestNext(t *testing.T) {
	for _, v := range someVecs() {
		for _, d := range edgeDots() {
			was := v
			want, e := slowNext(v, d)
			checkNext(t, v, d, want, e)
			if v != was {
				t.Fatalf("Next(%v, %v) changed the vector to %v", was, d, v)
			}
		}
	}
}

// R6: what a result is changed to is not seen in the arguments, nor the other way round.
func TestApart(t *testing.T) {
	v := api.Vec{1, 2}
	w, _ := vec.Next(v, api.Dot{Rep: 1, Seq: 3})
	w[0] = 9
	v[2] = 8
	if v != (api.Vec{1, 2, 8}) || w != (api.Vec{9, 3}) {
		t.Errorf("Next shares memory: %v, %v", v, w)
	}
	b := vec.Encode(api.Vec{1, 2})
	b[1] = 7
	if got := vec.Encode(api.Vec{1, 2}); !bytes.Equal(got, []byte{2, 1, 2}) {
		t.Errorf("two results of Encode share memory: % x", got)
	}
	in := []byte{2, 0, 5}
	u, _ := vec.Decode(in)
	u[0] = 3
	if !bytes.Equal(in, []byte{2, 0, 5}) {
		t.Errorf("Decode changed its argument to % x", in)
	}
}

// P4.4 (Encode): the document's example and the edges.
func TestEncodeExamples(t *testing.T) {
	for _, c := range []struct {
		v    api.Vec
		want []byte
	}{
		{api.Vec{0, 5}, []byte{2, 0, 5}},
		{api.Vec{}, []byte{0}},
		{api.Vec{5}, []byte{1, 5}},
		{api.Vec{15: 1}, []byte{16, 0, 0, 0, 0, 0, 0, 0, 0, 0, 0, 0, 0, 0, 0, 0, 1}},
		{api.Vec{300, 0, 127, 128}, []byte{4, 0xac, 2, 0, 0x7f, 0x80, 1}},
		{api.Vec{1 << 20, top}, []byte{2, 0x80, 0x80, 0x40, 0xff, 0xff, 0xff, 0xff, 0x0f}},
		{full(top), append([]byte{16}, bytes.Repeat([]byte{0xff, 0xff, 0xff, 0xff, 0x0f}, 16)...)},
	} {
		if got := vec.Encode(c.v); !bytes.Equal(got, c.want) {
			t.Errorf("Encode(%v) = % x, want % x", c.v, got, c.want)
		}
	}
}

// P4.4: Encode as the chapter says, and Decode undoes it.
func TestEncodeAndDecode(t *testing.T) {
	l := someVecs()
	for i := range 32 {
		for j := range 16 {
			l = append(l, just(j, 1<<i), just(j, 1<<i-1), just(j, top-1<<i))
		}
	}
	l = append(l, irregular(500, 3, top+1)...)
	for _, v := range l {
		b := vec.Encode(v)
		if want := slowEncode(v); !bytes.Equal(b, want) {
			t.Fatalf("Encode(%v) = % x, want % x", v, b, want)
		}
		if got, e := vec.Decode(b); got != v || e != api.OK {
			t.Fatalf("Decode(Encode(%v)) = %v, %d", v, got, e)
		}
	}
}

func checkForm(t *testing.T, b []byte) {
	t.Helper()
	if got, e := vec.Decode(b); got != (api.Vec{}) || e != api.ErrForm {
		t.Errorf("Decode(% x) = %v, %d, want the zero vector, ErrForm", b, got, e)
	}
}

// P4.4 (Decode): bytes that are not an encoding; R3: the zero vector beside the error.
func TestDecodeWrong(t *testing.T) {
	checkForm(t, nil)
	checkForm(t, []byte{})
	ones := make([]uint64, 40)
	for i := range ones {
		ones[i] = 1
	}
	for _, count := range []uint64{17, 18, 32, 255, 256, 272, 1<<32 + 1, 1 << 63, math.MaxUint64} {
		checkForm(t, fields(count))
		checkForm(t, fields(append([]uint64{count}, ones[:min(count, 40)]...)...))
		checkForm(t, fields(append([]uint64{count}, ones[:1]...)...))
	}
	for count := uint64(0); count <= 16; count++ {
		for n := uint64(0); n <= 17; n++ {
			b := fields(append([]uint64{count}, ones[:n]...)...)
			if n != count {
				checkForm(t, b)
			} else if _, e := vec.Decode(b); e != api.OK {
				t.Errorf("Decode(% x): %d", b, e)
			}
		}
	}
	for _, b := range [][]byte{
		{1, 0}, {2, 1, 0}, {2, 0, 0}, {0, 0}, {3, 1, 2, 0}, // a last number that is 0, or bytes behind none
		{1, 5, 0}, {1, 5, 1}, {2, 0, 5, 0}, {0, 1}, {0, 0x80}, {1, 5, 0x80}, // bytes behind the last field
		{0x80}, {1, 0x80}, {2, 5, 0x85}, {1}, {2, 5}, // fields that are cut off
		{0x80, 0}, {0x81, 0, 5}, {1, 0x85, 0}, {2, 0x80, 0, 5}, {2, 0, 0x85, 0x80, 0}, // numbers in more bytes than their encodings have
	} {
		checkForm(t, b)
	}
	checkForm(t, append([]byte{16}, make([]byte, 16)...))
}

// P4.4 (Decode): a number above 2^32 - 1, at each index.
func TestDecodeGreatNumbers(t *testing.T) {
	for i := range 16 {
		for _, number := range []uint64{1 << 32, 1<<32 + 1, 1<<33 - 1, 1 << 33, 1<<40 + 7, 1 << 63, math.MaxUint64} {
			numbers := make([]uint64, i+2)
			numbers[0], numbers[i+1] = uint64(i+1), number
			checkForm(t, fields(numbers...))
			if i < 15 {
				checkForm(t, fields(append(append([]uint64{uint64(i + 2)}, numbers[1:]...), 1)...))
			}
		}
		numbers := make([]uint64, i+2)
		numbers[0], numbers[i+1] = uint64(i+1), top
		if got, e := vec.Decode(fields(numbers...)); got != just(i, top) || e != api.OK {
			t.Errorf("Decode of 2^32 - 1 at index %d: %v, %d", i, got, e)
		}
	}
	checkForm(t, []byte{1, 0xff, 0xff, 0xff, 0xff, 0xff, 0xff, 0xff, 0xff, 0xff, 2})
}

// P4.4 (Decode): every beginning of an encoding, and every encoding with one byte more, is none; a changed byte gives what encodes to it, or ErrForm.
func TestDecodeChanged(t *testing.T) {
	for _, v := range someVecs() {
		b := slowEncode(v)
		for i := range b {
			checkForm(t, b[:i])
		}
		for _, x := range []byte{0, 1, 0x80, 0xff} {
			checkForm(t, append(bytes.Clone(b), x))
		}
		for i := range b {
			for _, x := range []byte{1, 2, 0x10, 0x7f, 0x80, 0xff} {
				c := bytes.Clone(b)
				c[i] ^= x
				got, e := vec.Decode(c)
				if e == api.OK && !bytes.Equal(slowEncode(got), c) || e != api.OK && (e != api.ErrForm || got != (api.Vec{})) {
					t.Fatalf("Decode(% x) = %v, %d", c, got, e)
				}
			}
		}
	}
}

// lawVecs are vectors of which some are below others and some are not.
func lawVecs() []api.Vec {
	l := []api.Vec{{}, {1, 2}, {1, 3}, {2, 1}, {2, 3}, {15: 1}, {15: top}, {1, 15: 1}, full(1), full(2), full(top), {14: 3, 15: 1}}
	l = append(l, irregular(10, 4, 3)...)
	return append(l, irregular(8, 5, top+1)...)
}

// P4.5 (lattice): the laws of two vectors.
func TestLawsOfTwo(t *testing.T) {
	unlike := 0
	for _, a := range lawVecs() {
		if vec.Join(a, a) != a || vec.Meet(a, a) != a {
			t.Errorf("Join or Meet of %v and itself", a)
		}
		for _, b := range lawVecs() {
			if vec.Order(a, b) == vec.Unlike {
				unlike++
			}
			join, meet := vec.Join(a, b), vec.Meet(a, b)
			if join != vec.Join(b, a) || meet != vec.Meet(b, a) {
				t.Errorf("%v and %v: Join or Meet is not commutative", a, b)
			}
			if vec.Join(a, meet) != a || vec.Meet(a, join) != a {
				t.Errorf("%v and %v: Join and Meet don't absorb each other", a, b)
			}
			if vec.Below(a, b) != (join == b) || vec.Below(a, b) != (meet == a) {
				t.Errorf("%v and %v: Below and Join don't agree", a, b)
			}
			if !slowBelow(a, join) || !slowBelow(meet, a) {
				t.Errorf("%v and %v: Join is not above, or Meet not below", a, b)
			}
		}
	}
	if unlike < 100 {
		t.Errorf("only %d pairs of which neither is below the other one", unlike)
	}
}

// P4.5 (lattice): the laws of three vectors.
func TestLawsOfThree(t *testing.T) {
	for _, a := range lawVecs() {
		for _, b := range lawVecs() {
			for _, c := range lawVecs() {
				if vec.Join(vec.Join(a, b), c) != vec.Join(a, vec.Join(b, c)) {
					t.Fatalf("Join of %v, %v, %v is not associative", a, b, c)
				}
				if vec.Meet(vec.Meet(a, b), c) != vec.Meet(a, vec.Meet(b, c)) {
					t.Fatalf("Meet of %v, %v, %v is not associative", a, b, c)
				}
			}
		}
	}
}

// dotsAbout are dots about the numbers of the vectors, at all indices, beside some that are not valid.
func dotsAbout(vecs ...api.Vec) []api.Dot {
	l := edgeDots()
	for rep := range 17 {
		for _, v := range vecs {
			for d := range uint32(4) {
				l = append(l, api.Dot{Rep: uint8(rep), Seq: v[rep%16] + d - 1})
			}
		}
	}
	return l
}

// P4.6 (dots): which dots Join and Meet have.
func TestDotsOfJoinAndMeet(t *testing.T) {
	for _, a := range lawVecs() {
		for _, b := range lawVecs() {
			join, meet := vec.Join(a, b), vec.Meet(a, b)
			for _, d := range dotsAbout(a, b) {
				inA, inB := vec.Has(a, d), vec.Has(b, d)
				if vec.Has(join, d) != (inA || inB) || vec.Has(meet, d) != (inA && inB) {
					t.Fatalf("%v and %v: the dot %v: in Join %v, in Meet %v", a, b, d, vec.Has(join, d), vec.Has(meet, d))
				}
			}
		}
	}
}

// P4.6 (dots): a vector lacks only d of the dots of its Next.
func TestDotsOfNext(t *testing.T) {
	found := 0
	for _, v := range append(lawVecs(), full(1<<20-1), api.Vec{1 << 20, 1<<20 - 1}) {
		for rep := range uint8(16) {
			d := api.Dot{Rep: rep, Seq: v[rep] + 1}
			w, e := vec.Next(v, d)
			if e != api.OK {
				continue
			}
			found++
			for _, x := range dotsAbout(v, w) {
				if want := vec.Has(v, x) || x == d; vec.Has(w, x) != want {
					t.Fatalf("Next(%v, %v): the dot %v: %v", v, d, x, !want)
				}
			}
		}
	}
	if found < 200 {
		t.Errorf("Next succeeded only %d times", found)
	}
}
