package op_test

import (
	"bytes"
	"math"
	"testing"

	"trug/api"
	"trug/op"
)

const (
	top     = math.MaxUint32
	maxSeq  = 1 << 20
	maxTick = 1 << 30
)

// The slow functions read the chapter word by word, so that they owe nothing to the package nor to those below it.

func slowRight(o api.Op, n int) bool {
	if n < 1 || n > 16 {
		return false
	}
	if int(o.Dot.Rep) >= n || o.Dot.Seq < 1 || o.Dot.Seq > maxSeq {
		return false
	}
	for i := 0; i < 16; i++ {
		if o.Ctx[i] > maxSeq || i >= n && o.Ctx[i] != 0 {
			return false
		}
	}
	if uint64(o.Ctx[o.Dot.Rep])+1 != uint64(o.Dot.Seq) || o.Tick > maxTick {
		return false
	}
	return o.Kind == 1 && o.Qty >= 1 || o.Kind == 2 || o.Kind == 3 && o.Qty == 0 || (o.Kind == 4 || o.Kind == 5) && o.Item == 0 && o.Qty == 0
}

func slowCount(o api.Op) uint64 {
	sum := uint64(1)
	for i := 0; i < 16; i++ {
		sum += uint64(o.Ctx[i])
	}
	return sum
}

func slowLess(a, b api.Op) bool {
	ca, cb := slowCount(a), slowCount(b)
	return ca < cb || ca == cb && (a.Dot.Rep < b.Dot.Rep || a.Dot.Rep == b.Dot.Rep && a.Dot.Seq < b.Dot.Seq)
}

func slowHas(v api.Vec, d api.Dot) bool {
	return d.Rep < 16 && d.Seq >= 1 && d.Seq <= maxSeq && v[d.Rep] >= d.Seq
}

func slowEnds(o, entry api.Op) bool {
	makes := entry.Kind == 1 || entry.Kind == 2 || entry.Kind == 4
	clears := o.Kind == 5
	takes := (o.Kind == 3 || o.Kind == 2) && entry.Kind != 4 && o.Item == entry.Item
	return makes && o.Cart == entry.Cart && slowHas(o.Ctx, entry.Dot) && (clears || takes)
}

func slowReady(known api.Vec, o api.Op) api.Errno {
	if !slowRight(o, 16) {
		return api.ErrArg
	}
	if slowHas(known, o.Dot) {
		return api.ErrHave
	}
	for i := 0; i < 16; i++ {
		if o.Ctx[i] > known[i] {
			return api.ErrGap
		}
	}
	return api.OK
}

// slowNum encodes a number as the chapter on layer 2 says, by division.
func slowNum(n uint64) []byte {
	var b []byte
	for n >= 128 {
		b = append(b, byte(128+n%128))
		n /= 128
	}
	return append(b, byte(n))
}

// slowVec encodes a vector as the chapter on layer 4 says.
func slowVec(v api.Vec) []byte {
	count := 0
	for i := 0; i < 16; i++ {
		if v[i] != 0 {
			count = i + 1
		}
	}
	b := slowNum(uint64(count))
	for i := 0; i < count; i++ {
		b = append(b, slowNum(uint64(v[i]))...)
	}
	return b
}

// fields encodes numbers, and bytes behind them, whether or not they are those of an operation.
func fields(numbers []uint64, tail []byte) []byte {
	var b []byte
	for _, n := range numbers {
		b = append(b, slowNum(n)...)
	}
	b = append(b, slowNum(uint64(len(tail)))...)
	return append(b, tail...)
}

// numbers are the fields of o ahead of its Ctx.
func numbers(o api.Op) []uint64 {
	return []uint64{uint64(o.Dot.Rep), uint64(o.Dot.Seq), uint64(o.Kind), uint64(o.Cart), uint64(o.Item), uint64(o.Qty), uint64(o.Tick)}
}

func slowEncode(o api.Op) []byte {
	return fields(numbers(o), slowVec(o.Ctx))
}

// full is the vector of 16 times the same number.
func full(number uint32) api.Vec {
	var v api.Vec
	for i := range v {
		v[i] = number
	}
	return v
}

// with is v with another number at one index.
func with(v api.Vec, i int, number uint32) api.Vec {
	v[i] = number
	return v
}

// made is an operation of a replica that knew ctx, with an Item and a Qty that its kind may have.
func made(rep uint8, kind uint8, ctx api.Vec) api.Op {
	o := api.Op{Dot: api.Dot{Rep: rep, Seq: ctx[rep] + 1}, Kind: kind, Cart: 9, Ctx: ctx}
	if kind <= api.Remove {
		o.Item = 300
	}
	if kind <= api.Set {
		o.Qty = 2
	}
	return o
}

// rightOps are valid operations, with each field at its edges.
func rightOps() []api.Op {
	var l []api.Op
	ctxs := []api.Vec{{}, {1}, {0, 1}, {1, 2}, {15: 1}, {15: maxSeq - 1}, {maxSeq - 1}, {127, 128, 300}, full(1), full(maxSeq - 1)}
	for _, ctx := range ctxs {
		for _, rep := range []uint8{0, 1, 7, 14, 15} {
			for kind := uint8(1); kind <= 5; kind++ {
				o := made(rep, kind, ctx)
				l = append(l, o)
				o.Tick, o.Cart = maxTick, math.MaxUint16
				if kind <= api.Remove {
					o.Item = math.MaxUint16
				}
				if kind <= api.Set {
					o.Qty = math.MaxUint16
				}
				l = append(l, o)
			}
		}
	}
	set, zero := made(3, api.Set, api.Vec{}), made(0, api.Add, api.Vec{})
	set.Qty, set.Item, set.Cart = 0, 0, 0
	zero.Qty, zero.Item, zero.Cart = 1, 0, 0
	most := made(5, api.Set, with(full(maxSeq), 5, maxSeq-1))
	return append(l, set, zero, most)
}

// turns change one field of a valid operation to an edge of what is valid, or beyond.
func turns() []func(o *api.Op) {
	var l []func(o *api.Op)
	for _, x := range []uint8{0, 1, 2, 3, 4, 5, 6, 14, 15, 16, 17, 127, 128, 255} {
		l = append(l, func(o *api.Op) { o.Dot.Rep = x }, func(o *api.Op) { o.Kind = x })
	}
	for _, x := range []uint16{0, 1, 2, 255, 256, math.MaxUint16} {
		l = append(l, func(o *api.Op) { o.Cart = x }, func(o *api.Op) { o.Item = x }, func(o *api.Op) { o.Qty = x })
	}
	for _, x := range []uint32{0, 1, 2, maxSeq - 1, maxSeq, maxSeq + 1, maxTick - 1, maxTick, maxTick + 1, 1 << 31, top} {
		l = append(l, func(o *api.Op) { o.Dot.Seq = x }, func(o *api.Op) { o.Tick = x })
		for i := range 16 {
			l = append(l, func(o *api.Op) { o.Ctx[i] = x })
			l = append(l, func(o *api.Op) { o.Ctx[i] = x; o.Dot = api.Dot{Rep: uint8(i), Seq: x + 1} })
		}
	}
	return append(l, func(o *api.Op) { o.Dot.Seq++ }, func(o *api.Op) { o.Dot.Seq-- }, func(o *api.Op) {})
}

func checkRight(t *testing.T, o api.Op, n int, want bool) {
	t.Helper()
	if got := op.Right(o, n); got != want {
		t.Errorf("Right(%+v, %d) = %v", o, n, got)
	}
}

// P6.1 (Right): n in the range 1 to 16.
func TestRightCount(t *testing.T) {
	first := made(0, api.Add, api.Vec{})
	for n := 1; n <= 16; n++ {
		checkRight(t, first, n, true)
	}
	for _, n := range []int{math.MinInt, -16, -1, 0, 17, 18, 256, 257, math.MaxInt} {
		checkRight(t, first, n, false)
		checkRight(t, made(15, api.Set, full(1)), n, false)
	}
}

// P6.1 (Right): the Rep is below n, and Ctx has numbers for replicas below n alone.
func TestRightReps(t *testing.T) {
	for n := 1; n <= 16; n++ {
		for rep := range uint8(16) {
			checkRight(t, made(rep, api.Add, api.Vec{}), n, int(rep) < n)
			checkRight(t, made(0, api.Add, with(api.Vec{}, int(rep), 1)), n, int(rep) < n)
		}
	}
	for _, rep := range []uint8{16, 17, 31, 32, 128, 255} {
		o := made(0, api.Add, api.Vec{})
		o.Dot.Rep = rep
		checkRight(t, o, 16, false)
		checkRight(t, o, 256, false)
		checkRight(t, o, math.MaxInt, false)
	}
}

// P6.1 (Right): the Seq is in the range 1 to MaxSeq, and one more than Ctx's number for the Rep.
func TestRightSeq(t *testing.T) {
	for _, rep := range []uint8{0, 1, 15} {
		for _, seq := range []uint32{0, 1, 2, 3, maxSeq - 1, maxSeq, maxSeq + 1, top} {
			for _, d := range []int64{-2, -1, 0, 1} {
				o := made(rep, api.Set, api.Vec{3, 3, 3})
				o.Dot.Seq, o.Ctx[rep] = seq, uint32(int64(seq)+d)
				checkRight(t, o, 16, d == -1 && seq >= 1 && seq <= maxSeq)
			}
		}
	}
	// The number of another replica does not count.
	o := made(1, api.Set, api.Vec{4, 7})
	o.Dot.Seq = 5
	checkRight(t, o, 16, false)
}

// P6.1 (Right): the other numbers of Ctx and the Tick have limits.
func TestRightLimits(t *testing.T) {
	for i := 1; i < 16; i++ {
		checkRight(t, made(0, api.Add, with(api.Vec{}, i, maxSeq)), 16, true)
		checkRight(t, made(0, api.Add, with(api.Vec{}, i, maxSeq+1)), 16, false)
		checkRight(t, made(0, api.Add, with(api.Vec{}, i, top)), 16, false)
	}
	for _, kind := range []uint8{1, 2, 3, 4, 5} {
		o := made(1, kind, api.Vec{})
		for _, tick := range []uint32{0, 1, maxTick - 1, maxTick, maxTick + 1, 1 << 31, top} {
			o.Tick = tick
			checkRight(t, o, 2, tick <= maxTick)
		}
	}
}

// P6.1 (Right): which Item and Qty each Kind may have, and no other Kinds.
func TestRightKinds(t *testing.T) {
	for kind := range 256 {
		for _, item := range []uint16{0, 1, 256, math.MaxUint16} {
			for _, qty := range []uint16{0, 1, 256, math.MaxUint16} {
				want := false
				switch kind {
				case 1:
					want = qty != 0
				case 2:
					want = true
				case 3:
					want = qty == 0
				case 4, 5:
					want = qty == 0 && item == 0
				}
				for _, cart := range []uint16{0, 1, math.MaxUint16} {
					checkRight(t, api.Op{Dot: api.Dot{Seq: 1}, Kind: uint8(kind), Cart: cart, Item: item, Qty: qty}, 1, want)
				}
			}
		}
	}
}

// P6.1 (Right) held against the chapter's words, with every change of one field of valid operations; both answers must be frequent.
func TestRight(t *testing.T) {
	seen := map[bool]int{}
	for _, o := range rightOps() {
		checkRight(t, o, 16, true)
		for _, turn := range turns() {
			x := o
			turn(&x)
			for _, n := range []int{-1, 0, 1, 2, 8, 15, 16, 17} {
				want := slowRight(x, n)
				seen[want]++
				checkRight(t, x, n, want)
			}
		}
	}
	if seen[true] < 1000 || seen[false] < 1000 {
		t.Errorf("answers: %v", seen)
	}
}

// P6.1 (Count).
func TestCount(t *testing.T) {
	for _, c := range []struct {
		ctx  api.Vec
		want uint64
	}{
		{api.Vec{}, 1}, {api.Vec{1}, 2}, {api.Vec{15: 1}, 2}, {api.Vec{1, 2, 15: 4}, 8}, {api.Vec{top}, 1 << 32},
		{full(maxSeq), 16777217}, {with(full(maxSeq), 0, maxSeq-1), 16777216}, {full(top), 68719476721},
	} {
		for _, o := range []api.Op{{Ctx: c.ctx}, {Ctx: c.ctx, Dot: api.Dot{Rep: 3, Seq: 9}, Kind: 4, Cart: 5, Item: 6, Qty: 7, Tick: 8}} {
			if got := op.Count(o); got != c.want {
				t.Errorf("Count(%+v) = %d, want %d", o, got, c.want)
			}
		}
	}
}

func checkLess(t *testing.T, a, b api.Op, want bool) {
	t.Helper()
	if got := op.Less(a, b); got != want {
		t.Errorf("Less(%+v, %+v) = %v", a, b, got)
	}
}

// P6.1 (Less): the Count first, then the Rep, then the Seq, and nothing else.
func TestLess(t *testing.T) {
	at := func(rep uint8, seq uint32, ctx api.Vec) api.Op {
		return api.Op{Dot: api.Dot{Rep: rep, Seq: seq}, Ctx: ctx}
	}
	for _, c := range []struct{ a, b api.Op }{
		{at(3, 9, api.Vec{1}), at(1, 2, api.Vec{0, 2})},
		{at(3, 2, api.Vec{1}), at(3, 1, api.Vec{0, 2})},
		{at(3, 9, full(maxSeq)), at(1, 2, full(top))},
		{at(3, 9, api.Vec{1}), at(1, 2, api.Vec{1 << 31, 1 << 31})},
		{at(0, 9, api.Vec{0, 2}), at(1, 2, api.Vec{2})},
		{at(127, 9, api.Vec{2}), at(128, 2, api.Vec{1, 1})},
		{at(1, 2, api.Vec{0, 2}), at(1, 3, api.Vec{2})},
		{at(1, 1, api.Vec{0, 2}), at(1, 1<<31, api.Vec{2})},
	} {
		checkLess(t, c.a, c.b, true)
		checkLess(t, c.b, c.a, false)
		checkLess(t, c.a, c.a, false)
		checkLess(t, c.b, c.b, false)
	}
	a := at(1, 2, api.Vec{0, 1})
	b := a
	b.Kind, b.Cart, b.Item, b.Qty, b.Tick = 5, 4, 3, 2, 1
	checkLess(t, a, b, false)
	checkLess(t, b, a, false)
	for _, a := range rightOps() {
		for _, b := range rightOps() {
			checkLess(t, a, b, slowLess(a, b))
		}
	}
}

func checkEnds(t *testing.T, o, entry api.Op, want bool) {
	t.Helper()
	if got := op.Ends(o, entry); got != want {
		t.Errorf("Ends(%+v, %+v) = %v", o, entry, got)
	}
}

// The chapter's example: P6.1 and P6.2.
func TestExample(t *testing.T) {
	add := api.Op{Dot: api.Dot{Rep: 0, Seq: 1}, Kind: api.Add, Cart: 3, Item: 4, Qty: 2}
	checkRight(t, add, 1, true)
	if got := op.Count(add); got != 1 {
		t.Errorf("Count = %d", got)
	}
	remove := api.Op{Dot: api.Dot{Rep: 1, Seq: 1}, Kind: api.Remove, Cart: 3, Item: 4, Ctx: api.Vec{1}}
	checkRight(t, remove, 2, true)
	checkEnds(t, remove, add, true)
	remove.Ctx = api.Vec{}
	checkRight(t, remove, 2, true)
	checkEnds(t, remove, add, false)
}

// P6.2 (Ends): each pair of Kinds, known ones and others, with the same and another Cart and Item.
func TestEndsKinds(t *testing.T) {
	ends := map[[2]uint8]bool{
		{api.Set, api.Add}: true, {api.Set, api.Set}: true,
		{api.Remove, api.Add}: true, {api.Remove, api.Set}: true,
		{api.Clear, api.Add}: true, {api.Clear, api.Set}: true, {api.Clear, api.Out}: true,
	}
	kinds := []uint8{0, 1, 2, 3, 4, 5, 6, 8, 128, 255}
	for _, kind := range kinds {
		for _, other := range kinds {
			for _, item := range []uint16{0, 7} {
				entry := api.Op{Dot: api.Dot{Rep: 1, Seq: 3}, Kind: other, Cart: 9, Item: item}
				o := api.Op{Dot: api.Dot{Rep: 2, Seq: 1}, Kind: kind, Cart: 9, Item: item, Ctx: api.Vec{0, 3}}
				pair := ends[[2]uint8{kind, other}]
				checkEnds(t, o, entry, pair)
				o.Item = item + 1
				checkEnds(t, o, entry, pair && kind == api.Clear)
				o.Item, o.Cart = item, 8
				checkEnds(t, o, entry, false)
			}
		}
	}
}

// P6.2 (Ends): o's Ctx must have entry's Dot, which must be valid.
func TestEndsCtx(t *testing.T) {
	for _, kind := range []uint8{api.Set, api.Remove, api.Clear} {
		entry := made(1, api.Add, api.Vec{5, 2})
		for _, c := range []struct {
			ctx  api.Vec
			want bool
		}{{api.Vec{}, false}, {api.Vec{5, 2}, false}, {api.Vec{5, 3}, true}, {api.Vec{0, 3}, true}, {api.Vec{9, 9}, true}, {api.Vec{3, 2, 3}, false}, {with(full(top), 1, 2), false}} {
			checkEnds(t, api.Op{Kind: kind, Cart: 9, Item: 300, Ctx: c.ctx}, entry, c.want)
		}
		for _, d := range []api.Dot{{}, {Rep: 1}, {Rep: 16, Seq: 1}, {Rep: 255, Seq: 1}, {Rep: 0, Seq: maxSeq + 1}, {Rep: 15, Seq: top}} {
			entry.Dot = d
			checkEnds(t, api.Op{Kind: kind, Cart: 9, Item: 300, Ctx: full(top)}, entry, false)
		}
		// An operation's own Dot is not in its Ctx.
		own := made(1, kind, api.Vec{5, 2})
		checkEnds(t, own, own, false)
	}
}

// P6.2 (Ends) held against the chapter's words.
func TestEnds(t *testing.T) {
	seen := map[bool]int{}
	for _, entry := range rightOps() {
		for _, o := range rightOps() {
			o.Cart = entry.Cart
			want := slowEnds(o, entry)
			seen[want]++
			checkEnds(t, o, entry, want)
		}
	}
	if seen[true] < 500 || seen[false] < 500 {
		t.Errorf("answers: %v", seen)
	}
}

func checkReady(t *testing.T, known api.Vec, o api.Op, want api.Errno) {
	t.Helper()
	if got := op.Ready(known, o); got != want {
		t.Errorf("Ready(%v, %+v) = %d, want %d", known, o, got, want)
	}
}

// P6.3 (Ready), R2: each error, and the first one of several.
func TestReadyErrors(t *testing.T) {
	o := made(1, api.Add, api.Vec{5, 2})
	checkReady(t, api.Vec{5, 2}, o, api.OK)
	checkReady(t, api.Vec{6, 2, 15: top}, o, api.OK)
	checkReady(t, api.Vec{5, 3}, o, api.ErrHave)
	checkReady(t, api.Vec{5, 4}, o, api.ErrHave)
	checkReady(t, full(top), o, api.ErrHave)
	checkReady(t, api.Vec{4, 2}, o, api.ErrGap)
	checkReady(t, api.Vec{5, 1}, o, api.ErrGap)
	checkReady(t, api.Vec{}, o, api.ErrGap)
	// ErrHave is named ahead of ErrGap: known has the Dot, but not all of what the operation knew.
	checkReady(t, api.Vec{4, 3}, o, api.ErrHave)
	checkReady(t, api.Vec{0, 3}, o, api.ErrHave)
	// ErrArg is named ahead of both.
	bad := o
	bad.Qty = 0
	for _, known := range []api.Vec{{}, {5, 2}, {5, 3}, {4, 3}, {4, 2}, full(top)} {
		checkReady(t, known, bad, api.ErrArg)
		checkReady(t, known, api.Op{}, api.ErrArg)
	}
	// It is for 16 replicas that the operation must be valid.
	checkReady(t, api.Vec{}, made(15, api.Clear, api.Vec{}), api.OK)
	checkReady(t, full(1), made(15, api.Clear, full(1)), api.OK)
	far := made(15, api.Clear, api.Vec{})
	far.Dot.Rep = 16
	checkReady(t, api.Vec{}, far, api.ErrArg)
	late := made(0, api.Clear, with(api.Vec{}, 0, maxSeq))
	checkReady(t, full(maxSeq), late, api.ErrArg)
}

// P6.3 (Ready) held against the chapter's words; each answer must occur.
func TestReady(t *testing.T) {
	seen := map[api.Errno]int{}
	for _, o := range rightOps() {
		for _, turn := range turns() {
			x := o
			turn(&x)
			less, more, both := o.Ctx, o.Ctx, o.Ctx
			less[2]--
			more[o.Dot.Rep]++
			both[o.Dot.Rep]++
			both[(o.Dot.Rep+3)%16]--
			for _, known := range []api.Vec{{}, o.Ctx, less, more, both, full(maxSeq), full(top)} {
				want := slowReady(known, x)
				seen[want]++
				checkReady(t, known, x, want)
			}
		}
	}
	for _, e := range []api.Errno{api.OK, api.ErrArg, api.ErrHave, api.ErrGap} {
		if seen[e] < 200 {
			t.Errorf("only %d answers %d", seen[e], e)
		}
	}
}

// P6.4 (Encode): the fields in their order; R6: writing to the result changes nothing else.
func TestEncode(t *testing.T) {
	o := api.Op{Dot: api.Dot{Rep: 1, Seq: 3}, Kind: api.Add, Cart: 9, Item: 300, Qty: 2, Tick: 77, Ctx: api.Vec{5, 2}}
	want := []byte{1, 3, 1, 9, 0xac, 2, 2, 77, 3, 2, 5, 2}
	b, e := op.Encode(o)
	if e != api.OK || !bytes.Equal(b, want) {
		t.Errorf("Encode = % x, %d", b, e)
	}
	clear(b)
	if again, e := op.Encode(o); e != api.OK || !bytes.Equal(again, want) {
		t.Errorf("Encode again = % x, %d", again, e)
	}
	for _, o := range rightOps() {
		if b, e := op.Encode(o); e != api.OK || !bytes.Equal(b, slowEncode(o)) {
			t.Errorf("Encode(%+v) = % x, %d", o, b, e)
		}
	}
}

// P6.4 (Encode): ErrArg, and no bytes, for what is not valid for 16 replicas, and for it alone.
func TestEncodeWrong(t *testing.T) {
	wrong := 0
	for _, o := range append(rightOps(), api.Op{}) {
		for _, turn := range turns() {
			x := o
			turn(&x)
			b, e := op.Encode(x)
			if slowRight(x, 16) {
				if e != api.OK {
					t.Errorf("Encode(%+v): %d", x, e)
				}
				continue
			}
			wrong++
			if e != api.ErrArg || len(b) != 0 {
				t.Errorf("Encode(%+v) = % x, %d", x, b, e)
			}
		}
	}
	if wrong < 1000 {
		t.Errorf("only %d wrong operations", wrong)
	}
}

func checkForm(t *testing.T, b []byte) {
	t.Helper()
	if got, e := op.Decode(b); got != (api.Op{}) || e != api.ErrForm {
		t.Errorf("Decode(% x) = %+v, %d", b, got, e)
	}
}

// P6.5 (back): what Decode returns of an encoding; R6: the bytes are as they were, and changing them changes nothing.
func TestBack(t *testing.T) {
	seen := map[string]api.Op{}
	for _, o := range rightOps() {
		b, _ := op.Encode(o)
		kept := bytes.Clone(b)
		got, e := op.Decode(b)
		if !bytes.Equal(b, kept) {
			t.Errorf("Decode changed % x to % x", kept, b)
		}
		clear(b)
		if got != o || e != api.OK {
			t.Errorf("Decode(% x) = %+v, %d", kept, got, e)
		}
		if other, found := seen[string(kept)]; found && other != o {
			t.Errorf("% x is the encoding of %+v and of %+v", kept, o, other)
		}
		seen[string(kept)] = o
	}
}

// P6.4 (Decode): no bytes, every beginning of an encoding, and more bytes behind it.
func TestDecodeCut(t *testing.T) {
	checkForm(t, nil)
	checkForm(t, []byte{})
	for _, o := range rightOps() {
		b := slowEncode(o)
		for i := range b {
			checkForm(t, b[:i])
		}
		for _, x := range []byte{0, 1, 0x80, 0xff} {
			checkForm(t, append(bytes.Clone(b), x))
		}
		checkForm(t, append(bytes.Clone(b), b...))
	}
}

// P6.4 (Decode): a number in more bytes than it needs, among them the length of Ctx and the numbers in it.
func TestDecodeLong(t *testing.T) {
	o := made(1, api.Add, api.Vec{5, 2})
	b := slowEncode(o)
	for i, x := range b {
		if x >= 0x80 {
			continue
		}
		for _, tail := range [][]byte{{0}, {0x80, 0}} {
			long := append(bytes.Clone(b[:i]), x|0x80)
			long = append(append(long, tail...), b[i+1:]...)
			checkForm(t, long)
			// The same with a length of Ctx that counts the bytes that are too many.
			if i >= len(b)-3 {
				long[len(b)-4] += byte(len(tail))
				checkForm(t, long)
			}
		}
	}
}

// P6.4 (Decode): a number that does not fit its field, though its last bytes alone would.
func TestDecodeGreat(t *testing.T) {
	sizes := []uint{8, 32, 8, 16, 16, 16, 32}
	for _, o := range []api.Op{made(0, api.Add, api.Vec{}), made(1, api.Set, api.Vec{5, 2}), made(15, api.Clear, full(3))} {
		for i, size := range sizes {
			for _, more := range []uint64{1 << size, 2 << size, 1<<63 | 1<<size, 1 << 63} {
				l := numbers(o)
				l[i] += more
				checkForm(t, fields(l, slowVec(o.Ctx)))
			}
			l := numbers(o)
			l[i] = math.MaxUint64
			checkForm(t, fields(l, slowVec(o.Ctx)))
			l[i] = 1 << size
			checkForm(t, fields(l, slowVec(o.Ctx)))
		}
	}
}

// P6.4 (Decode): a Ctx whose bytes are no encoding of a vector.
func TestDecodeCtx(t *testing.T) {
	l := numbers(made(0, api.Add, api.Vec{}))
	if _, e := op.Decode(fields(l, []byte{0})); e != api.OK {
		t.Fatalf("the same with the zero vector: %d", e)
	}
	for _, tail := range [][]byte{
		nil, {0, 0}, {1}, {1, 0}, {2, 0}, {2, 0, 0}, {2, 0, 1, 0}, {2, 0, 0x80}, {3, 0, 1}, {0x80}, {0x80, 0}, {2, 0, 0x81, 0},
		append([]byte{17}, bytes.Repeat([]byte{1}, 17)...), {2, 0, 0x80, 0x80, 0x80, 0x80, 0x10},
	} {
		checkForm(t, fields(l, tail))
	}
	// A length of Ctx that is greater or less than the bytes that follow.
	b := fields(l, []byte{2, 0, 1})
	if _, e := op.Decode(b); e != api.OK {
		t.Fatalf("the same with its length: %d", e)
	}
	for x := range 256 {
		c := bytes.Clone(b)
		if c[len(c)-4] = byte(x); x != 3 {
			checkForm(t, c)
		}
	}
}

// P6.4 (Decode): the fields of an operation that is not valid.
func TestDecodeNotValid(t *testing.T) {
	wrong := 0
	for _, o := range append(rightOps(), api.Op{}) {
		for _, turn := range turns() {
			x := o
			turn(&x)
			b := slowEncode(x)
			if !slowRight(x, 16) {
				wrong++
				checkForm(t, b)
			} else if got, e := op.Decode(b); got != x || e != api.OK {
				t.Errorf("Decode(% x) = %+v, %d", b, got, e)
			}
		}
	}
	if wrong < 1000 {
		t.Errorf("only %d wrong operations", wrong)
	}
}

// P6.5 (back): changed bytes are the encoding of what Decode returns, or of nothing.
func TestDecodeChanged(t *testing.T) {
	read := 0
	for _, o := range rightOps() {
		b := slowEncode(o)
		for i := range b {
			for _, x := range []byte{1, 2, 3, 4, 0x10, 0x40, 0x7f, 0x80, 0xff} {
				c := bytes.Clone(b)
				c[i] ^= x
				got, e := op.Decode(c)
				if e == api.OK {
					read++
				}
				if e == api.OK && !bytes.Equal(slowEncode(got), c) || e != api.OK && (e != api.ErrForm || got != (api.Op{})) {
					t.Fatalf("Decode(% x) = %+v, %d", c, got, e)
				}
			}
		}
	}
	if read < 1000 {
		t.Errorf("only %d could be read", read)
	}
}

// history makes operations of some replicas, each of which knows what its replica has seen; now and then one sees all that another one has.
func history(reps, length int, seed uint64) []api.Op {
	x := seed*2862933555777941757 + 88172645463325252
	seen := make([]api.Vec, reps)
	var l []api.Op
	for len(l) < length {
		x ^= x << 13
		x ^= x >> 7
		x ^= x << 17
		rep := int(x >> 33 % uint64(reps))
		if x>>13%3 == 0 {
			from := int(x >> 23 % uint64(reps))
			for i, number := range seen[from] {
				seen[rep][i] = max(seen[rep][i], number)
			}
			continue
		}
		l = append(l, made(uint8(rep), uint8(x>>50%5+1), seen[rep]))
		seen[rep][rep]++
	}
	return l
}

// P6.6 (first things first): what an operation knew, with all that this one knew, is Less.
func TestFirstThingsFirst(t *testing.T) {
	pairs := 0
	for seed := range uint64(6) {
		l := history(2+3*int(seed%5), 60, seed)
		for _, a := range l {
			for _, b := range l {
				if !slowHas(b.Ctx, a.Dot) {
					continue
				}
				pairs++
				if !op.Less(a, b) || op.Less(b, a) {
					t.Fatalf("%+v knew %+v, but is not behind it", b, a)
				}
			}
		}
	}
	if pairs < 2000 {
		t.Errorf("only %d pairs of which one knew the other", pairs)
	}
}

// P6.6 (first things first): Less is a strict total order on operations with different dots.
func TestLessOrder(t *testing.T) {
	var l []api.Op
	dots := map[api.Dot]bool{}
	for _, o := range append(history(5, 50, 9), rightOps()...) {
		if !dots[o.Dot] {
			dots[o.Dot] = true
			l = append(l, o)
		}
	}
	for i, a := range l {
		for j, b := range l {
			if i == j && op.Less(a, b) || i != j && op.Less(a, b) == op.Less(b, a) {
				t.Fatalf("Less of %+v and %+v: %v, turned: %v", a, b, op.Less(a, b), op.Less(b, a))
			}
			for _, c := range l {
				if op.Less(a, b) && op.Less(b, c) && !op.Less(a, c) {
					t.Fatalf("%+v, %+v and %+v are not in order", a, b, c)
				}
			}
		}
	}
}
