package snap_test

import (
	"bytes"
	"math"
	"slices"
	"sort"
	"testing"

	"trug/api"
	"trug/cart"
	"trug/fold"
	"trug/snap"
)

const (
	top      = math.MaxUint32
	maxSeq   = 1 << 20
	maxTick  = 1 << 30
	maxCount = 1<<24 + 1
	maxBytes = 65536
)

// The slow functions read the chapters word by word, so that they owe nothing to the package.

// shortest is a number in its shortest form.
func shortest(n uint64) []byte {
	var b []byte
	for ; n >= 128; n >>= 7 {
		b = append(b, byte(n)|128)
	}
	return append(b, byte(n))
}

// longer is a number in a form that has one byte too many.
func longer(n uint64) []byte {
	b := shortest(n)
	b[len(b)-1] |= 128
	return append(b, 0)
}

func bytesOf(numbers ...uint64) []byte {
	var b []byte
	for _, n := range numbers {
		b = append(b, shortest(n)...)
	}
	return b
}

func slowVec(v api.Vec) []byte {
	count := 0
	for i, n := range v {
		if n > 0 {
			count = i + 1
		}
	}
	b := bytesOf(uint64(count))
	for _, n := range v[:count] {
		b = append(b, shortest(uint64(n))...)
	}
	return b
}

// numbersOf are the fields of a state behind its Known.
func numbersOf(s cart.State) []uint64 {
	l := []uint64{uint64(len(s.Ticks))}
	for _, x := range s.Ticks {
		l = append(l, uint64(x.Cart), uint64(x.Tick))
	}
	l = append(l, uint64(len(s.Entries)))
	for _, e := range s.Entries {
		l = append(l, uint64(e.Cart), uint64(e.Item), uint64(e.Qty), uint64(e.Kind), uint64(e.Dot.Rep), uint64(e.Dot.Seq), e.Count)
	}
	return l
}

// encoded is an encoding of fields, whatever they are.
func encoded(known []byte, numbers []uint64) []byte {
	return slices.Concat(shortest(uint64(len(known))), known, bytesOf(numbers...))
}

func slowEncode(s cart.State) []byte {
	return encoded(slowVec(s.Known), numbersOf(s))
}

func slowLess(a, b api.Op) bool {
	countA, countB := uint64(0), uint64(0)
	for i := range a.Ctx {
		countA += uint64(a.Ctx[i])
		countB += uint64(b.Ctx[i])
	}
	if countA != countB {
		return countA < countB
	}
	return a.Dot.Rep < b.Dot.Rep || a.Dot.Rep == b.Dot.Rep && a.Dot.Seq < b.Dot.Seq
}

// slowAbove tries each operation at each step; it must be asked only for valid states.
func slowAbove(s cart.State, l []api.Op) (cart.State, []api.Op) {
	rest := slices.Clone(l)
	for {
		best := -1
		var after cart.State
		for i, o := range rest {
			if next, e := cart.Apply(s, o); e == api.OK && (best < 0 || slowLess(o, rest[best])) {
				best, after = i, next
			}
		}
		if best < 0 {
			return s, rest
		}
		s, rest = after, slices.Delete(rest, best, best+1)
	}
}

// slowOf is the state of the operations of a closed list, by the words of chapters 7 and 8.
func slowOf(l []api.Op) cart.State {
	var s cart.State
	ticks := map[uint16]uint32{}
	live := fold.Live(l)
	for i, o := range l {
		s.Known[o.Dot.Rep] = max(s.Known[o.Dot.Rep], o.Dot.Seq)
		ticks[o.Cart] = max(ticks[o.Cart], o.Tick)
		if live[i] {
			count := uint64(1)
			for _, n := range o.Ctx {
				count += uint64(n)
			}
			s.Entries = append(s.Entries, cart.Entry{Cart: o.Cart, Item: o.Item, Qty: o.Qty, Kind: o.Kind, Dot: o.Dot, Count: count})
		}
	}
	for c, tick := range ticks {
		s.Ticks = append(s.Ticks, cart.Last{Cart: c, Tick: tick})
	}
	sort.Slice(s.Ticks, func(i, j int) bool { return s.Ticks[i].Cart < s.Ticks[j].Cart })
	sort.Slice(s.Entries, func(i, j int) bool {
		a, b := s.Entries[i], s.Entries[j]
		if a.Cart != b.Cart {
			return a.Cart < b.Cart
		}
		return a.Dot.Rep < b.Dot.Rep || a.Dot.Rep == b.Dot.Rep && a.Dot.Seq < b.Dot.Seq
	})
	return s
}

func same(a, b cart.State) bool {
	return a.Known == b.Known && slices.Equal(a.Entries, b.Entries) && slices.Equal(a.Ticks, b.Ticks)
}

func clone(s cart.State) cart.State {
	return cart.State{Known: s.Known, Entries: slices.Clone(s.Entries), Ticks: slices.Clone(s.Ticks)}
}

// spoil writes to all memory of a state, also to what lies behind its slices.
func spoil(s cart.State) {
	entries, ticks := s.Entries[:cap(s.Entries)], s.Ticks[:cap(s.Ticks)]
	for i := range entries {
		entries[i] = cart.Entry{Cart: 77, Item: 77, Qty: 77, Kind: 77}
	}
	for i := range ticks {
		ticks[i] = cart.Last{Cart: 77, Tick: 77}
	}
}

func spoilOps(l []api.Op) {
	l = l[:cap(l)]
	for i := range l {
		l[i] = api.Op{Kind: 77, Cart: 77}
	}
}

// encode holds Encode of a valid state against the chapter's words, and Decode against Encode (P9.1, P9.2, P9.4).
func encode(t *testing.T, s cart.State) []byte {
	t.Helper()
	kept := clone(s)
	b, e := snap.Encode(s)
	if want := slowEncode(kept); e != api.OK || !bytes.Equal(b, want) {
		t.Fatalf("Encode(%+v) = %x, %d, not %x", kept, b, e, want)
	}
	if !same(s, kept) {
		t.Fatalf("Encode changed the state to %+v", s)
	}
	keptBytes := slices.Clone(b)
	got, e := snap.Decode(b)
	if e != api.OK || !same(got, kept) {
		t.Fatalf("Decode(%x) = %+v, %d, not %+v", b, got, e, kept)
	}
	if !bytes.Equal(b, keptBytes) {
		t.Fatalf("Decode changed the bytes to %x", b)
	}
	return b
}

// refuse asks for ErrForm, together with the zero state (R3).
func refuse(t *testing.T, b []byte) {
	t.Helper()
	kept := slices.Clone(b)
	if s, e := snap.Decode(b); e != api.ErrForm || !same(s, cart.State{}) {
		t.Errorf("Decode(%x) = %+v, %d", b, s, e)
	}
	if !bytes.Equal(b, kept) {
		t.Errorf("Decode changed the bytes to %x", b)
	}
}

// above holds Above of a valid state against the chapter's words; what was passed must be as it was (R6).
func above(t *testing.T, s cart.State, l []api.Op) (cart.State, []api.Op) {
	t.Helper()
	keptState, keptOps := clone(s), slices.Clone(l)
	wantState, wantRest := slowAbove(s, l)
	got, rest := snap.Above(s, l)
	if !same(got, wantState) || !slices.Equal(rest, wantRest) {
		t.Fatalf("Above(%+v, %+v) = %+v, %+v, not %+v, %+v", s, l, got, rest, wantState, wantRest)
	}
	if !same(s, keptState) || !slices.Equal(l, keptOps) {
		t.Fatal("Above changed what was passed")
	}
	return got, rest
}

// made is an operation on cart 3.
func made(rep uint8, seq uint32, kind uint8, item, qty uint16, ctx api.Vec) api.Op {
	return api.Op{Dot: api.Dot{Rep: rep, Seq: seq}, Kind: kind, Cart: 3, Item: item, Qty: qty, Tick: 5, Ctx: ctx}
}

// random is a source of numbers that are the same each time.
type random uint64

func (r *random) below(n int) int {
	x := uint64(*r)
	x ^= x << 13
	x ^= x >> 7
	x ^= x << 17
	*r = random(x)
	return int(x >> 33 % uint64(n))
}

// shuffled is l in any order at all.
func shuffled(l []api.Op, r *random) []api.Op {
	out := slices.Clone(l)
	for i := range out {
		j := i + r.below(len(out)-i)
		out[i], out[j] = out[j], out[i]
	}
	return out
}

// history makes operations of some replicas for carts 0 to 3, each of which knows what its replica has seen; now and then one sees all that another one has.
func history(reps, length int, seed uint64) []api.Op {
	r := random(seed*2862933555777941757 + 88172645463325252)
	seen := make([]api.Vec, reps)
	var l []api.Op
	for len(l) < length {
		rep := r.below(reps)
		if r.below(3) == 0 {
			for i, number := range seen[r.below(reps)] {
				seen[rep][i] = max(seen[rep][i], number)
			}
			continue
		}
		o := api.Op{Dot: api.Dot{Rep: uint8(rep), Seq: seen[rep][rep] + 1}, Cart: uint16(r.below(4)), Tick: uint32(r.below(100)), Ctx: seen[rep]}
		switch n := r.below(20); {
		case n < 9:
			o.Kind, o.Item, o.Qty = api.Add, uint16(r.below(4)), uint16(1+r.below(9))
		case n < 15:
			o.Kind, o.Item, o.Qty = api.Set, uint16(r.below(4)), uint16(r.below(9))
		case n < 17:
			o.Kind, o.Item = api.Remove, uint16(r.below(4))
		case n < 19:
			o.Kind = api.Out
		default:
			o.Kind = api.Clear
		}
		l = append(l, o)
		seen[rep][rep]++
	}
	return l
}

// part is a closed part of a history: what some of its operations knew, and they.
func part(l []api.Op, r *random) []api.Op {
	var v api.Vec
	for range r.below(4) {
		o := l[r.below(len(l))]
		for i, number := range o.Ctx {
			v[i] = max(v[i], number)
		}
		v[o.Dot.Rep] = max(v[o.Dot.Rep], o.Dot.Seq)
	}
	var out []api.Op
	for _, o := range l {
		if o.Dot.Seq <= v[o.Dot.Rep] {
			out = append(out, o)
		}
	}
	return out
}

// base is a valid state with entries of three carts, with the least and the greatest numbers.
func base() cart.State {
	return cart.State{
		Known: api.Vec{4, 9, 15: maxSeq},
		Entries: []cart.Entry{
			{Cart: 2, Item: 7, Qty: 1, Kind: api.Add, Dot: api.Dot{Rep: 1, Seq: 9}, Count: 1},
			{Cart: 3, Item: 65535, Qty: 0, Kind: api.Set, Dot: api.Dot{Rep: 0, Seq: 2}, Count: 5},
			{Cart: 3, Item: 0, Qty: 65535, Kind: api.Set, Dot: api.Dot{Rep: 0, Seq: 4}, Count: maxCount},
			{Cart: 3, Item: 8, Qty: 65535, Kind: api.Add, Dot: api.Dot{Rep: 1, Seq: 1}, Count: 2},
			{Cart: 65535, Kind: api.Out, Dot: api.Dot{Rep: 15, Seq: maxSeq}, Count: 3},
		},
		Ticks: []cart.Last{{Cart: 0, Tick: 0}, {Cart: 2, Tick: maxTick}, {Cart: 3, Tick: 1}, {Cart: 65535, Tick: 9}},
	}
}

// wrong are states that are not valid, for one reason each.
func wrong() []cart.State {
	var l []cart.State
	with := func(change func(s *cart.State)) {
		s := base()
		change(&s)
		l = append(l, s)
	}
	entry := func(i int, change func(e *cart.Entry)) {
		with(func(s *cart.State) { change(&s.Entries[i]) })
	}
	with(func(s *cart.State) { s.Known[2] = maxSeq + 1 })
	with(func(s *cart.State) { s.Known[15] = top })
	with(func(s *cart.State) { s.Ticks[1], s.Ticks[2] = s.Ticks[2], s.Ticks[1] })
	with(func(s *cart.State) { s.Ticks = append(s.Ticks, cart.Last{Cart: 65535, Tick: 9}) })
	with(func(s *cart.State) { s.Ticks[0].Tick = maxTick + 1 })
	with(func(s *cart.State) { s.Ticks[3].Tick = top })
	// Out of the order of Cart, of Rep and of Seq.
	with(func(s *cart.State) { s.Entries[0], s.Entries[1] = s.Entries[1], s.Entries[0] })
	with(func(s *cart.State) { s.Entries[2], s.Entries[3] = s.Entries[3], s.Entries[2] })
	with(func(s *cart.State) { s.Entries[1], s.Entries[2] = s.Entries[2], s.Entries[1] })
	// A Dot twice, within a cart and in two carts.
	with(func(s *cart.State) { s.Entries = slices.Insert(s.Entries, 1, s.Entries[1]) })
	entry(4, func(e *cart.Entry) { e.Dot = api.Dot{Rep: 0, Seq: 4} })
	// Dots that Known does not have, and that are not valid.
	entry(2, func(e *cart.Entry) { e.Dot.Seq = 5 })
	entry(0, func(e *cart.Entry) { e.Dot = api.Dot{Rep: 2, Seq: 1} })
	entry(1, func(e *cart.Entry) { e.Dot.Seq = 0 })
	entry(4, func(e *cart.Entry) { e.Dot = api.Dot{Rep: 16, Seq: 1} })
	entry(4, func(e *cart.Entry) { e.Dot = api.Dot{Rep: 255, Seq: top} })
	// Kinds with what they may not have, and kinds that make no entry.
	entry(0, func(e *cart.Entry) { e.Qty = 0 })
	entry(4, func(e *cart.Entry) { e.Item = 1 })
	entry(4, func(e *cart.Entry) { e.Qty = 1 })
	for _, kind := range []uint8{0, api.Remove, api.Clear, 6, 255} {
		entry(4, func(e *cart.Entry) { e.Kind = kind })
	}
	// Carts without a tick.
	entry(4, func(e *cart.Entry) { e.Cart = 4 })
	with(func(s *cart.State) { s.Ticks = nil })
	with(func(s *cart.State) { s.Ticks = slices.Delete(s.Ticks, 2, 3) })
	for _, count := range []uint64{0, maxCount + 1, 1 << 32, math.MaxUint64} {
		entry(2, func(e *cart.Entry) { e.Count = count })
	}
	return l
}

// ticksOf is a valid state with an encoding of so many bytes, all but a few of them those of its ticks; a Tick of 128 makes a byte more than one of 0.
func ticksOf(size int) cart.State {
	s := cart.State{Known: api.Vec{3}}
	for i := range 20000 {
		s.Ticks = append(s.Ticks, cart.Last{Cart: uint16(i)})
	}
	for i := range size - len(slowEncode(s)) {
		s.Ticks[i].Tick = 128
	}
	return s
}

// entriesOf is a valid state with an encoding of so many bytes, all but a few of them those of its entries.
func entriesOf(size int) cart.State {
	s := cart.State{Ticks: []cart.Last{{Cart: 9}}}
	for rep := range 16 {
		s.Known[rep] = 500
		for seq := range 500 {
			s.Entries = append(s.Entries, cart.Entry{Cart: 9, Kind: api.Set, Dot: api.Dot{Rep: uint8(rep), Seq: uint32(seq + 1)}, Count: 1})
		}
	}
	for i := range size - len(slowEncode(s)) {
		s.Entries[i].Count = 128
	}
	return s
}

// The chapter's example.
func TestExample(t *testing.T) {
	if b := encode(t, cart.State{}); string(b) != "\x01\x00\x00\x00" {
		t.Errorf("%x", b)
	}
}

// P9.1 (Encode), P9.2 (Decode), P9.4 (back): each field, with the least and the greatest numbers.
func TestEncode(t *testing.T) {
	var full api.Vec
	for i := range full {
		full[i] = maxSeq
	}
	for _, known := range []api.Vec{{}, {1}, {0, 1}, {300}, {15: 1}, {14: 128}, {1, 0, 2}, {15: maxSeq}, full} {
		encode(t, cart.State{Known: known})
		encode(t, cart.State{Known: known, Ticks: []cart.Last{{Cart: 0, Tick: 0}, {Cart: 65535, Tick: maxTick}}})
	}
	if b := encode(t, base()); len(b) != len(slowEncode(base())) {
		t.Errorf("%x", b)
	}
	for _, e := range []cart.Entry{
		{Qty: 1, Kind: api.Add, Dot: api.Dot{Seq: 1}, Count: 1},
		{Cart: 65535, Item: 65535, Qty: 65535, Kind: api.Add, Dot: api.Dot{Rep: 15, Seq: maxSeq}, Count: maxCount},
		{Kind: api.Set, Dot: api.Dot{Seq: 1}, Count: 1},
		{Cart: 65535, Item: 65535, Qty: 65535, Kind: api.Set, Dot: api.Dot{Rep: 15, Seq: maxSeq}, Count: maxCount},
		{Kind: api.Out, Dot: api.Dot{Seq: 1}, Count: 1},
		{Cart: 65535, Kind: api.Out, Dot: api.Dot{Rep: 15, Seq: maxSeq}, Count: maxCount},
		{Cart: 1, Item: 2, Qty: 3, Kind: api.Set, Dot: api.Dot{Rep: 5, Seq: 6}, Count: 7},
	} {
		encode(t, cart.State{Known: full, Entries: []cart.Entry{e}, Ticks: []cart.Last{{Cart: e.Cart, Tick: 8}}})
	}
	s := cart.State{Known: api.Vec{2, 5}, Entries: []cart.Entry{{Cart: 300, Item: 2, Qty: 3, Kind: 1, Dot: api.Dot{Rep: 1, Seq: 4}, Count: 6}}, Ticks: []cart.Last{{Cart: 300, Tick: 8}}}
	if b := encode(t, s); string(b) != "\x03\x02\x02\x05\x01\xac\x02\x08\x01\xac\x02\x02\x03\x01\x01\x04\x06" {
		t.Errorf("%x", b)
	}
}

// P9.1 (Encode) of states that are not valid, and R3: no bytes together with an error.
func TestEncodeWrong(t *testing.T) {
	l := wrong()
	// Not being valid comes ahead of being too large.
	big := ticksOf(maxBytes + 1)
	big.Ticks[7].Tick = maxTick + 1
	for _, s := range append(l, big) {
		kept := clone(s)
		if b, e := snap.Encode(s); e != api.ErrArg || len(b) != 0 {
			t.Errorf("Encode(%+v) = %x, %d", s, b, e)
		}
		if !same(s, kept) {
			t.Errorf("Encode changed the state to %+v", s)
		}
	}
}

// P9.1 (Encode): MaxBytes bytes and one more. P9.2 (Decode) has no such limit: an encoding is decoded, however long it is.
func TestEncodeBig(t *testing.T) {
	for _, made := range []func(size int) cart.State{ticksOf, entriesOf} {
		if b := encode(t, made(maxBytes)); len(b) != maxBytes {
			t.Errorf("%d bytes", len(b))
		}
		encode(t, made(maxBytes-1))
		for more := 1; more <= 3; more++ {
			s := made(maxBytes + more)
			if b, e := snap.Encode(s); e != api.ErrBig || len(b) != 0 {
				t.Errorf("%d bytes more: %d bytes, %d", more, len(b), e)
			}
			if got, e := snap.Decode(slowEncode(s)); e != api.OK || !same(got, s) {
				t.Errorf("%d bytes more: %d", more, e)
			}
		}
	}
	// All carts that there can be.
	var s cart.State
	for i := range 1 << 16 {
		s.Ticks = append(s.Ticks, cart.Last{Cart: uint16(i), Tick: maxTick})
	}
	if b, e := snap.Encode(s); e != api.ErrBig || len(b) != 0 {
		t.Errorf("%d bytes, %d", len(b), e)
	}
}

// P9.2 (Decode) of nothing, of beginnings, and of more than an encoding.
func TestDecodeLength(t *testing.T) {
	refuse(t, nil)
	refuse(t, []byte{})
	for _, s := range []cart.State{{}, {Known: api.Vec{300}}, base()} {
		b := slowEncode(s)
		for i := range b {
			refuse(t, b[:i])
		}
		for more := range 256 {
			refuse(t, append(slices.Clone(b), byte(more)))
		}
		refuse(t, append(slices.Clone(b), b...))
		refuse(t, append([]byte{0}, b...))
	}
}

// P9.2 (Decode) of numbers that are not in their shortest form, one each.
func TestDecodeForm(t *testing.T) {
	known, numbers := slowVec(base().Known), numbersOf(base())
	if b := encoded(known, numbers); !bytes.Equal(b, slowEncode(base())) {
		t.Fatalf("%x", b)
	}
	refuse(t, slices.Concat(longer(uint64(len(known))), known, bytesOf(numbers...)))
	for i := range numbers {
		b := encoded(known, numbers[:i])
		b = append(b, longer(numbers[i])...)
		refuse(t, append(b, bytesOf(numbers[i+1:]...)...))
		// And a number that has no end, or more bits than a number can have.
		b = encoded(known, numbers[:i])
		refuse(t, append(slices.Clone(b), bytes.Repeat([]byte{128}, 40)...))
		b = append(b, "\xff\xff\xff\xff\xff\xff\xff\xff\xff\x02"...)
		refuse(t, append(b, bytesOf(numbers[i+1:]...)...))
	}
}

// P9.2 (Decode) of numbers that are above what their field can hold: cut down to their type they would be right.
func TestDecodeAbove(t *testing.T) {
	s := base()
	known, numbers := slowVec(s.Known), numbersOf(s)
	above := func(i int, more uint64) {
		t.Helper()
		l := slices.Clone(numbers)
		l[i] += more
		refuse(t, encoded(known, l))
		l[i] = math.MaxUint64 - more + 1 + numbers[i]
		refuse(t, encoded(known, l))
	}
	at := 1
	for range s.Ticks {
		above(at, 1<<16)
		above(at+1, 1<<32)
		at += 2
	}
	at++
	for range s.Entries {
		for i, more := range []uint64{1 << 16, 1 << 16, 1 << 16, 1 << 8, 1 << 8, 1 << 32, 1 << 32} {
			above(at+i, more)
		}
		at += 7
	}
	if at != len(numbers) {
		t.Fatalf("%d of %d numbers", at, len(numbers))
	}
}

// P9.2 (Decode) of counts that are not those of what is behind them.
func TestDecodeCount(t *testing.T) {
	s := base()
	known, numbers := slowVec(s.Known), numbersOf(s)
	for _, at := range []int{0, 1 + 2*len(s.Ticks)} {
		for _, count := range []uint64{0, numbers[at] - 1, numbers[at] + 1, numbers[at] + 2, 100, 1 << 16, 1 << 20, 1 << 31, 1 << 32, 1<<32 + numbers[at], 1 << 62, 1 << 63, math.MaxUint64} {
			l := slices.Clone(numbers)
			l[at] = count
			refuse(t, encoded(known, l))
		}
	}
	// Nothing at all behind a count.
	for _, count := range []uint64{1, 1 << 32, math.MaxUint64} {
		refuse(t, encoded([]byte{0}, []uint64{count}))
		refuse(t, encoded([]byte{0}, []uint64{0, count}))
	}
}

// P9.2 (Decode) of a Known that is no encoding of a vector.
func TestDecodeKnown(t *testing.T) {
	if b := encoded([]byte{0}, []uint64{0, 0}); string(b) != "\x01\x00\x00\x00" {
		t.Fatalf("%x", b)
	}
	for _, known := range [][]byte{
		{}, {1}, {0, 0}, {1, 0}, {2, 1, 0}, {1, 1, 0}, {2, 1}, {1, 1, 1}, {128, 0}, {1, 129, 0},
		bytesOf(17, 1, 1, 1, 1, 1, 1, 1, 1, 1, 1, 1, 1, 1, 1, 1, 1, 1), bytesOf(1<<32, 1), bytesOf(math.MaxUint64),
		bytesOf(1, 1<<32), bytesOf(1, 1<<32+5), bytesOf(2, 1<<32+5, 1), bytesOf(1, math.MaxUint64),
		// These are vectors, but none that a state may have.
		bytesOf(1, 1<<20+1), bytesOf(2, 1, top),
	} {
		refuse(t, encoded(known, []uint64{0, 0}))
	}
	// A length that is larger than what is behind it.
	refuse(t, []byte{4, 0, 0, 0})
	refuse(t, append(shortest(math.MaxUint64), 0, 0, 0))
	refuse(t, append(shortest(1<<63), 0, 0, 0))
}

// P9.2 (Decode) of encodings of states that are not valid.
func TestDecodeWrong(t *testing.T) {
	for _, s := range wrong() {
		refuse(t, slowEncode(s))
	}
	big := ticksOf(maxBytes)
	big.Ticks[7].Cart = 6
	refuse(t, slowEncode(big))
}

// P9.4 (back): whatever bytes are decoded are those that Encode makes of the state.
func TestDecodeChanged(t *testing.T) {
	r := random(7)
	decoded := 0
	for seed := range uint64(6) {
		b := slowEncode(slowOf(history(3, 12, seed)))
		for range 3000 {
			c := slices.Clone(b)
			for range 1 + r.below(3) {
				c[r.below(len(c))] = byte(r.below(256) >> r.below(8))
			}
			kept := slices.Clone(c)
			s, e := snap.Decode(c)
			if e == api.ErrForm && same(s, cart.State{}) {
				continue
			}
			decoded++
			if e != api.OK || !cart.Right(s) || !bytes.Equal(slowEncode(s), kept) || !bytes.Equal(encode(t, s), kept) {
				t.Fatalf("Decode(%x) = %+v, %d", kept, s, e)
			}
		}
	}
	if decoded < 1000 {
		t.Errorf("only %d", decoded)
	}
}

// P9.3 (Above) of a state that is not valid: the zero state, and all operations.
func TestAboveWrong(t *testing.T) {
	l := history(3, 9, 1)
	for _, s := range wrong() {
		for _, x := range [][]api.Op{nil, {}, l[:1], l, {l[0], l[0], {}}} {
			keptState, keptOps := clone(s), slices.Clone(x)
			got, rest := snap.Above(s, x)
			if !same(got, cart.State{}) || !slices.Equal(rest, x) {
				t.Errorf("Above(%+v, %+v) = %+v, %+v", s, x, got, rest)
			}
			spoil(got)
			spoilOps(rest)
			if !same(s, keptState) || !slices.Equal(x, keptOps) {
				t.Error("what was passed has changed")
			}
		}
	}
}

// P9.3 (Above): no operations, and operations of which none can be applied.
func TestAboveNone(t *testing.T) {
	for _, s := range []cart.State{{}, base(), slowOf(history(3, 20, 2))} {
		for _, l := range [][]api.Op{
			nil, {},
			// Not ready, ever: something that they knew is not there, or what is ahead of them.
			{made(2, 90, api.Add, 1, 1, api.Vec{2: 89})}, {made(3, 1, api.Add, 1, 1, api.Vec{7: 5})},
			{made(3, 1, api.Add, 1, 1, api.Vec{7: 1}), made(7, 1, api.Add, 1, 1, api.Vec{3: 1})},
			// Not valid.
			{{}}, {made(9, 1, api.Add, 1, 0, api.Vec{}), made(16, 1, api.Add, 1, 1, api.Vec{}), made(9, 1, 6, 1, 1, api.Vec{}), made(9, 2, api.Add, 1, 1, api.Vec{})},
		} {
			if got, rest := above(t, s, l); !same(got, s) || len(rest) != len(l) {
				t.Errorf("%+v, %+v", got, rest)
			}
		}
	}
	// What the state has already: with the same and with another content.
	l := history(3, 20, 3)
	other := l[4]
	other.Kind, other.Item, other.Qty = api.Set, 999, 9
	if got, rest := above(t, slowOf(l), append(slices.Clone(l), other)); !same(got, slowOf(l)) || len(rest) != 21 {
		t.Errorf("%+v, %+v", got, rest)
	}
}

// P9.3 (Above): in any order, with one that is never ready, with the same one twice, with some that are not valid; the rest is in the order of l.
func TestAbove(t *testing.T) {
	a := made(0, 1, api.Add, 4, 2, api.Vec{})
	b := made(1, 1, api.Set, 4, 7, api.Vec{1})
	c := made(0, 2, api.Out, 0, 0, api.Vec{1, 1})
	never := made(2, 2, api.Add, 4, 2, api.Vec{2, 1, 1})
	bad := made(0, 1, api.Add, 4, 0, api.Vec{})
	want := slowOf([]api.Op{a, b, c})
	for _, x := range []struct{ l, rest []api.Op }{
		{[]api.Op{a, b, c}, nil}, {[]api.Op{c, b, a}, nil}, {[]api.Op{b, c, a}, nil},
		{[]api.Op{never, c, b, a}, []api.Op{never}}, {[]api.Op{c, a, never, b}, []api.Op{never}},
		{[]api.Op{a, a, b, c}, []api.Op{a}}, {[]api.Op{c, c, b, b, a, a}, []api.Op{c, b, a}},
		{[]api.Op{bad, c, never, bad, b, {}, a, a}, []api.Op{bad, never, bad, {}, a}},
	} {
		got, rest := above(t, cart.State{}, x.l)
		if !same(got, want) || !slices.Equal(rest, x.rest) {
			t.Errorf("Above(%+v) = %+v, %+v", x.l, got, rest)
		}
	}
}

// P9.3 (Above): of several that can be applied, the one such that none of them is Less comes first. That can be seen where two have the same Dot.
func TestAboveLeast(t *testing.T) {
	x := made(1, 1, api.Add, 4, 1, api.Vec{})
	small := made(0, 1, api.Add, 4, 1, api.Vec{})
	large := made(0, 1, api.Add, 4, 2, api.Vec{0, 1})
	got, rest := above(t, cart.State{}, []api.Op{large, x, small})
	if len(rest) != 1 || rest[0] != large || got.Known != (api.Vec{1, 1}) {
		t.Errorf("%+v, %+v", got, rest)
	}
	// Both ready at once: the smaller Count, wherever it is in l.
	s, _ := above(t, cart.State{}, []api.Op{x})
	for _, l := range [][]api.Op{{large, small}, {small, large}} {
		if got, rest := above(t, s, l); !slices.Equal(rest, []api.Op{large}) || got.Entries[0].Qty != 1 {
			t.Errorf("%+v, %+v", got, rest)
		}
	}
	// Neither is Less than the other one: the first of l.
	twin := small
	twin.Qty = 9
	for _, l := range [][]api.Op{{small, twin}, {twin, small}, {x, small, twin}, {twin, x, small}} {
		got, rest := above(t, cart.State{}, l)
		i := slices.IndexFunc(l, func(o api.Op) bool { return o.Dot.Rep == 0 })
		if len(rest) != 1 || rest[0] == l[i] || got.Entries[0].Qty != l[i].Qty {
			t.Errorf("%+v: %+v, %+v", l, got, rest)
		}
	}
	// A twin of which one is ready at first, and the other one, which stands ahead of it, only after another one was applied.
	early, late := made(0, 1, api.Set, 4, 1, api.Vec{}), made(0, 1, api.Set, 4, 2, api.Vec{0, 0, 1})
	if _, rest := above(t, cart.State{}, []api.Op{late, made(2, 1, api.Clear, 0, 0, api.Vec{}), early}); !slices.Equal(rest, []api.Op{late}) {
		t.Errorf("%+v", rest)
	}
	// By Rep, if the Counts are equal: {0 1} makes the one ready of which the Count is less than that of {1 1}.
	first := made(0, 1, api.Add, 4, 1, api.Vec{})
	second := made(0, 2, api.Add, 4, 1, api.Vec{1})
	ahead := made(2, 1, api.Add, 4, 1, api.Vec{1})
	behind := made(2, 1, api.Add, 4, 2, api.Vec{})
	if _, rest := above(t, cart.State{}, []api.Op{ahead, second, behind, first}); !slices.Equal(rest, []api.Op{ahead}) {
		t.Errorf("%+v", rest)
	}
}

// P9.3 (Above): histories in any order, with operations twice, with others of the same dots, with some missing, with some that are not valid.
func TestAboveMixed(t *testing.T) {
	for seed := range uint64(150) {
		r := random(seed + 1)
		l := history(1+r.below(6), 30, seed)
		s := slowOf(part(l, &r))
		for range r.below(12) {
			o := l[r.below(len(l))]
			switch r.below(6) {
			case 0:
				o.Kind, o.Item, o.Qty = api.Set, uint16(r.below(4)), uint16(r.below(99))
			case 1:
				o.Ctx[r.below(16)] = uint32(r.below(5))
			case 2:
				o.Kind = uint8(r.below(7))
			case 3:
				rep := o.Dot.Rep
				o.Ctx = l[r.below(len(l))].Ctx
				o.Ctx[rep] = o.Dot.Seq - 1
			case 4:
				l = slices.DeleteFunc(l, func(x api.Op) bool { return x == o })
				continue
			}
			l = append(l, o)
		}
		above(t, s, shuffled(l, &r))
		above(t, cart.State{}, shuffled(l, &r))
	}
}

// P9.5 (all): the state of a closed part, and the operations of the whole.
func TestAll(t *testing.T) {
	for seed := range uint64(120) {
		r := random(seed + 99)
		l := history(1+int(seed%16), 20+r.below(60), seed)
		whole := slowOf(l)
		for range 4 {
			some := part(l, &r)
			given := l
			if r.below(2) == 0 {
				given = shuffled(l, &r)
			}
			var want []api.Op
			for _, o := range given {
				if slices.Contains(some, o) {
					want = append(want, o)
				}
			}
			got, rest := snap.Above(slowOf(some), given)
			if !same(got, whole) || !slices.Equal(rest, want) {
				t.Fatalf("history %d: %+v, %+v, not %+v, %+v", seed, got, rest, whole, want)
			}
			for c := range uint16(5) {
				a, b := cart.View(got, c), fold.View(l, c)
				if a.Out != b.Out || a.Tick != b.Tick || !slices.Equal(a.Lines, b.Lines) {
					t.Fatalf("history %d, cart %d: %+v, not %+v", seed, c, a, b)
				}
			}
			encode(t, got)
		}
	}
}

// Many operations, the last ones first, of which many wait.
func TestAboveMany(t *testing.T) {
	l := history(16, 4096, 5)
	slices.Reverse(l)
	got, rest := snap.Above(cart.State{}, l)
	slices.Reverse(l)
	var want cart.State
	for _, o := range l {
		want, _ = cart.Apply(want, o)
	}
	if !same(got, want) || len(rest) != 0 {
		t.Errorf("%d are left", len(rest))
	}
}

// R6: what was passed and what was returned share no memory.
func TestMemory(t *testing.T) {
	b := encode(t, base())
	s, _ := snap.Decode(b)
	for i := range b {
		b[i] = 77
	}
	if !same(s, base()) {
		t.Errorf("%+v", s)
	}
	b = encode(t, s)
	spoil(s)
	if !bytes.Equal(b, slowEncode(base())) {
		t.Errorf("%x", b)
	}
	again, _ := snap.Encode(base())
	for i := range b[:cap(b)] {
		b[:cap(b)][i] = 77
	}
	if !bytes.Equal(again, slowEncode(base())) {
		t.Errorf("%x", again)
	}

	whole := history(3, 30, 4)
	for _, l := range [][]api.Op{nil, whole, {made(9, 3, api.Add, 1, 1, api.Vec{9: 2})}, slices.Concat(whole, whole)} {
		for _, s := range []cart.State{{}, base(), slowOf(whole[:9]), slowOf(whole)} {
			// With room behind its slices, into which nothing may be written.
			s = cart.State{Known: s.Known, Entries: slices.Grow(clone(s).Entries, 50), Ticks: slices.Grow(clone(s).Ticks, 50)}
			l := slices.Clone(l)
			keptState, keptOps := clone(s), slices.Clone(l)
			got, rest := snap.Above(s, l)
			wantState, wantRest := clone(got), slices.Clone(rest)
			spoil(got)
			spoilOps(rest)
			if !same(s, keptState) || !slices.Equal(l, keptOps) {
				t.Error("what was passed has changed")
			}
			got, rest = snap.Above(s, l)
			spoil(s)
			spoilOps(l)
			if !same(got, wantState) || !slices.Equal(rest, wantRest) {
				t.Error("what was returned has changed")
			}
		}
	}
}
