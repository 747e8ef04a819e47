package cart_test

import (
	"math"
	"slices"
	"sort"
	"testing"

	"trug/api"
	"trug/cart"
	"trug/fold"
)

const (
	top      = math.MaxUint32
	maxSeq   = 1 << 20
	maxTick  = 1 << 30
	maxCount = 1<<24 + 1
)

// The slow functions read the chapter word by word, so that they owe nothing to the package.

func slowHas(v api.Vec, d api.Dot) bool {
	return d.Rep < 16 && d.Seq >= 1 && d.Seq <= maxSeq && d.Seq <= v[d.Rep]
}

func slowCount(o api.Op) uint64 {
	sum := uint64(1)
	for _, number := range o.Ctx {
		sum += uint64(number)
	}
	return sum
}

func slowMakes(kind uint8) bool {
	return kind == 1 || kind == 2 || kind == 4
}

func slowEnds(o api.Op, e cart.Entry) bool {
	takes := (o.Kind == 3 || o.Kind == 2) && e.Kind != 4 && o.Item == e.Item
	return o.Cart == e.Cart && slowHas(o.Ctx, e.Dot) && (o.Kind == 5 || takes)
}

func entryOf(o api.Op) cart.Entry {
	return cart.Entry{Cart: o.Cart, Item: o.Item, Qty: o.Qty, Kind: o.Kind, Dot: o.Dot, Count: slowCount(o)}
}

func entryLess(a, b cart.Entry) bool {
	if a.Cart != b.Cart {
		return a.Cart < b.Cart
	}
	return a.Dot.Rep < b.Dot.Rep || a.Dot.Rep == b.Dot.Rep && a.Dot.Seq < b.Dot.Seq
}

// slowState lays entries and ticks into a state's order.
func slowState(known api.Vec, entries []cart.Entry, ticks map[uint16]uint32) cart.State {
	s := cart.State{Known: known, Entries: slices.Clone(entries)}
	sort.Slice(s.Entries, func(i, j int) bool { return entryLess(s.Entries[i], s.Entries[j]) })
	for c, tick := range ticks {
		s.Ticks = append(s.Ticks, cart.Last{Cart: c, Tick: tick})
	}
	sort.Slice(s.Ticks, func(i, j int) bool { return s.Ticks[i].Cart < s.Ticks[j].Cart })
	return s
}

// slowOf is the state of the operations of a closed list.
func slowOf(l []api.Op) cart.State {
	var known api.Vec
	var entries []cart.Entry
	ticks := map[uint16]uint32{}
	for _, o := range l {
		known[o.Dot.Rep] = max(known[o.Dot.Rep], o.Dot.Seq)
		ticks[o.Cart] = max(ticks[o.Cart], o.Tick)
		live := slowMakes(o.Kind)
		for _, x := range l {
			live = live && !slowEnds(x, entryOf(o))
		}
		if live {
			entries = append(entries, entryOf(o))
		}
	}
	return slowState(known, entries, ticks)
}

func slowTicks(s cart.State) map[uint16]uint32 {
	ticks := map[uint16]uint32{}
	for _, last := range s.Ticks {
		ticks[last.Cart] = last.Tick
	}
	return ticks
}

// slowApply must be asked only for what can be applied.
func slowApply(s cart.State, o api.Op) cart.State {
	var entries []cart.Entry
	for _, e := range s.Entries {
		if !slowEnds(o, e) {
			entries = append(entries, e)
		}
	}
	if slowMakes(o.Kind) {
		entries = append(entries, entryOf(o))
	}
	ticks := slowTicks(s)
	ticks[o.Cart] = max(ticks[o.Cart], o.Tick)
	s.Known[o.Dot.Rep] = o.Dot.Seq
	return slowState(s.Known, entries, ticks)
}

// slowMerge must be asked only for what can be merged.
func slowMerge(a, b cart.State) cart.State {
	var entries []cart.Entry
	for _, e := range a.Entries {
		if slices.Contains(b.Entries, e) || !slowHas(b.Known, e.Dot) {
			entries = append(entries, e)
		}
	}
	for _, e := range b.Entries {
		if !slices.Contains(a.Entries, e) && !slowHas(a.Known, e.Dot) {
			entries = append(entries, e)
		}
	}
	ticks := slowTicks(a)
	for c, tick := range slowTicks(b) {
		ticks[c] = max(ticks[c], tick)
	}
	known := a.Known
	for i := range known {
		known[i] = max(known[i], b.Known[i])
	}
	return slowState(known, entries, ticks)
}

// slowView must be asked only of valid states.
func slowView(s cart.State, c uint16) api.View {
	v := api.View{Cart: c, Tick: slowTicks(s)[c]}
	for item := 0; item < 1<<16; item++ {
		qty, found := uint64(0), false
		var set cart.Entry
		for _, e := range s.Entries {
			if e.Cart != c || int(e.Item) != item || e.Kind == 4 {
				continue
			}
			found = true
			if e.Kind == 1 {
				qty += uint64(e.Qty)
				continue
			}
			d, f := e.Dot, set.Dot
			if set.Kind == 0 || e.Count > set.Count || e.Count == set.Count && (d.Rep > f.Rep || d.Rep == f.Rep && d.Seq > f.Seq) {
				set = e
			}
		}
		if found {
			v.Lines = append(v.Lines, api.Line{Item: uint16(item), Qty: uint32((qty + uint64(set.Qty)) % (1 << 32))})
		}
	}
	for _, e := range s.Entries {
		v.Out = v.Out || e.Cart == c && e.Kind == 4
	}
	return v
}

func same(a, b cart.State) bool {
	return a.Known == b.Known && slices.Equal(a.Entries, b.Entries) && slices.Equal(a.Ticks, b.Ticks)
}

func sameView(a, b api.View) bool {
	return a.Cart == b.Cart && a.Out == b.Out && a.Tick == b.Tick && slices.Equal(a.Lines, b.Lines)
}

func clone(s cart.State) cart.State {
	return cart.State{Known: s.Known, Entries: slices.Clone(s.Entries), Ticks: slices.Clone(s.Ticks)}
}

// apply holds one Apply against the chapter's words; what was passed must be as it was (R6).
func apply(t *testing.T, s cart.State, o api.Op) cart.State {
	t.Helper()
	kept := clone(s)
	got, e := cart.Apply(s, o)
	if want := slowApply(kept, o); e != api.OK || !same(got, want) {
		t.Fatalf("Apply(%+v, %+v) = %+v, %d, not %+v", kept, o, got, e, want)
	}
	if !same(s, kept) {
		t.Fatalf("Apply changed the state to %+v", s)
	}
	if !cart.Right(got) {
		t.Fatalf("not right: %+v", got)
	}
	return got
}

// all is the state of operations that are applied in their order.
func all(t *testing.T, l ...api.Op) cart.State {
	t.Helper()
	var s cart.State
	for _, o := range l {
		s = apply(t, s, o)
	}
	return s
}

// refuse asks for an error of Apply, together with the zero state (R3), and that nothing changed (R5, R6).
func refuse(t *testing.T, s cart.State, o api.Op, want api.Errno) {
	t.Helper()
	kept := clone(s)
	got, e := cart.Apply(s, o)
	if e != want || !same(got, cart.State{}) {
		t.Errorf("Apply(%+v, %+v) = %+v, %d, not the error %d", s, o, got, e, want)
	}
	if !same(s, kept) {
		t.Errorf("Apply changed the state to %+v", s)
	}
}

// merge holds Merge of both, in both orders, against the chapter's words.
func merge(t *testing.T, a, b cart.State) cart.State {
	t.Helper()
	keptA, keptB := clone(a), clone(b)
	want := slowMerge(a, b)
	got, e := cart.Merge(a, b)
	if e != api.OK || !same(got, want) {
		t.Fatalf("Merge(%+v, %+v) = %+v, %d, not %+v", a, b, got, e, want)
	}
	turned, e := cart.Merge(b, a)
	if e != api.OK || !same(turned, want) {
		t.Fatalf("Merge(%+v, %+v) = %+v, %d, not %+v", b, a, turned, e, want)
	}
	if !same(a, keptA) || !same(b, keptB) {
		t.Fatal("Merge changed what was passed")
	}
	if !cart.Right(got) {
		t.Fatalf("not right: %+v", got)
	}
	return got
}

func refuseMerge(t *testing.T, a, b cart.State, want api.Errno) {
	t.Helper()
	for _, x := range [][2]cart.State{{a, b}, {b, a}} {
		if got, e := cart.Merge(x[0], x[1]); e != want || !same(got, cart.State{}) {
			t.Errorf("Merge(%+v, %+v) = %+v, %d, not the error %d", x[0], x[1], got, e, want)
		}
	}
}

// made is an operation on cart 3.
func made(rep uint8, seq uint32, kind uint8, item, qty uint16, ctx api.Vec) api.Op {
	return api.Op{Dot: api.Dot{Rep: rep, Seq: seq}, Kind: kind, Cart: 3, Item: item, Qty: qty, Tick: 5, Ctx: ctx}
}

// random is a source of numbers that are the same each time.
type random uint64

func (r *random) below(n int) int {
	x := uint64(*r)
	x ^= x << 13
	x ^= x >> 7
	x ^= x << 17
	*r = random(x)
	return int(x >> 33 % uint64(n))
}

// history makes operations of some replicas for carts 0 to 3, each of which knows what its replica has seen; now and then one sees all that another one has.
func history(reps, length int, seed uint64) []api.Op {
	r := random(seed*2862933555777941757 + 88172645463325252)
	seen := make([]api.Vec, reps)
	var l []api.Op
	for len(l) < length {
		rep := r.below(reps)
		if r.below(3) == 0 {
			for i, number := range seen[r.below(reps)] {
				seen[rep][i] = max(seen[rep][i], number)
			}
			continue
		}
		o := api.Op{Dot: api.Dot{Rep: uint8(rep), Seq: seen[rep][rep] + 1}, Cart: uint16(r.below(4)), Tick: uint32(r.below(100)), Ctx: seen[rep]}
		switch n := r.below(20); {
		case n < 9:
			o.Kind, o.Item, o.Qty = api.Add, uint16(r.below(4)), uint16(1+r.below(9))
		case n < 15:
			o.Kind, o.Item, o.Qty = api.Set, uint16(r.below(4)), uint16(r.below(9))
		case n < 17:
			o.Kind, o.Item = api.Remove, uint16(r.below(4))
		case n < 19:
			o.Kind = api.Out
		default:
			o.Kind = api.Clear
		}
		l = append(l, o)
		seen[rep][rep]++
	}
	return l
}

// mixed is l in another order in which none precedes one that it knew.
func mixed(l []api.Op, r *random) []api.Op {
	left := slices.Clone(l)
	var known api.Vec
	var out []api.Op
	for len(left) > 0 {
		i := r.below(len(left))
		ready := true
		for k, number := range left[i].Ctx {
			ready = ready && number <= known[k]
		}
		if ready {
			out = append(out, left[i])
			known[left[i].Dot.Rep]++
			left = slices.Delete(left, i, i+1)
		}
	}
	return out
}

// part is a closed part of a history: what some of its operations knew, and they.
func part(l []api.Op, r *random) []api.Op {
	var v api.Vec
	for range r.below(4) {
		o := l[r.below(len(l))]
		for i, number := range o.Ctx {
			v[i] = max(v[i], number)
		}
		v[o.Dot.Rep] = max(v[o.Dot.Rep], o.Dot.Seq)
	}
	return under(l, v)
}

func under(l []api.Op, v api.Vec) []api.Op {
	var out []api.Op
	for _, o := range l {
		if slowHas(v, o.Dot) {
			out = append(out, o)
		}
	}
	return out
}

// base is a valid state with entries of three carts.
func base() cart.State {
	return cart.State{
		Known: api.Vec{4, 9, 15: maxSeq},
		Entries: []cart.Entry{
			{Cart: 2, Item: 7, Qty: 1, Kind: api.Add, Dot: api.Dot{Rep: 1, Seq: 9}, Count: 1},
			{Cart: 3, Item: 65535, Qty: 0, Kind: api.Set, Dot: api.Dot{Rep: 0, Seq: 2}, Count: 5},
			{Cart: 3, Item: 0, Qty: 65535, Kind: api.Set, Dot: api.Dot{Rep: 0, Seq: 4}, Count: maxCount},
			{Cart: 3, Item: 8, Qty: 65535, Kind: api.Add, Dot: api.Dot{Rep: 1, Seq: 1}, Count: 2},
			{Cart: 65535, Kind: api.Out, Dot: api.Dot{Rep: 15, Seq: maxSeq}, Count: 3},
		},
		Ticks: []cart.Last{{Cart: 0, Tick: 0}, {Cart: 2, Tick: maxTick}, {Cart: 3, Tick: 1}, {Cart: 65535, Tick: 9}},
	}
}

// wrong are states that are not valid, for one reason each.
func wrong() []cart.State {
	var l []cart.State
	with := func(change func(s *cart.State)) {
		s := base()
		change(&s)
		l = append(l, s)
	}
	entry := func(i int, change func(e *cart.Entry)) {
		with(func(s *cart.State) { change(&s.Entries[i]) })
	}
	with(func(s *cart.State) { s.Known[2] = maxSeq + 1 })
	with(func(s *cart.State) { s.Known[15] = top })
	with(func(s *cart.State) { s.Ticks[1], s.Ticks[2] = s.Ticks[2], s.Ticks[1] })
	with(func(s *cart.State) { s.Ticks[0], s.Ticks[3] = s.Ticks[3], s.Ticks[0] })
	with(func(s *cart.State) { s.Ticks = append(s.Ticks, cart.Last{Cart: 65535, Tick: 9}) })
	with(func(s *cart.State) { s.Ticks = slices.Insert(s.Ticks, 1, cart.Last{Cart: 0, Tick: 1}) })
	with(func(s *cart.State) { s.Ticks[0].Tick = maxTick + 1 })
	with(func(s *cart.State) { s.Ticks[3].Tick = top })
	// Out of the order of Cart, of Rep and of Seq.
	with(func(s *cart.State) { slices.Reverse(s.Entries) })
	with(func(s *cart.State) { s.Entries[0], s.Entries[1] = s.Entries[1], s.Entries[0] })
	with(func(s *cart.State) { s.Entries[3], s.Entries[4] = s.Entries[4], s.Entries[3] })
	with(func(s *cart.State) { s.Entries[2], s.Entries[3] = s.Entries[3], s.Entries[2] })
	with(func(s *cart.State) { s.Entries[1], s.Entries[2] = s.Entries[2], s.Entries[1] })
	// A Dot twice, within a cart (with entries that are alike, and that are not) and in two carts, next to each other and not.
	with(func(s *cart.State) { s.Entries = slices.Insert(s.Entries, 1, s.Entries[1]) })
	with(func(s *cart.State) {
		s.Entries = slices.Insert(s.Entries, 1, s.Entries[1])
		s.Entries[1].Qty++
	})
	entry(0, func(e *cart.Entry) { e.Dot = api.Dot{Rep: 0, Seq: 2} })
	entry(0, func(e *cart.Entry) { e.Dot = api.Dot{Rep: 15, Seq: maxSeq} })
	entry(4, func(e *cart.Entry) { e.Dot = api.Dot{Rep: 0, Seq: 4} })
	// Dots that Known does not have, and that are not valid.
	entry(2, func(e *cart.Entry) { e.Dot.Seq = 5 })
	entry(0, func(e *cart.Entry) { e.Dot = api.Dot{Rep: 2, Seq: 1} })
	entry(1, func(e *cart.Entry) { e.Dot.Seq = 0 })
	entry(4, func(e *cart.Entry) { e.Dot = api.Dot{Rep: 16, Seq: 1} })
	entry(4, func(e *cart.Entry) { e.Dot = api.Dot{Rep: 255, Seq: top} })
	entry(4, func(e *cart.Entry) { e.Dot = api.Dot{Rep: 15, Seq: maxSeq + 1} })
	// Kinds with what they may not have, and kinds that make no entry.
	entry(0, func(e *cart.Entry) { e.Qty = 0 })
	entry(4, func(e *cart.Entry) { e.Item = 1 })
	entry(4, func(e *cart.Entry) { e.Qty = 1 })
	for kind := range 256 {
		if !slowMakes(uint8(kind)) {
			entry(4, func(e *cart.Entry) { e.Kind = uint8(kind) })
			entry(0, func(e *cart.Entry) { e.Kind = uint8(kind) })
		}
	}
	// Carts without a tick.
	entry(0, func(e *cart.Entry) { e.Cart = 1 })
	entry(4, func(e *cart.Entry) { e.Cart = 4 })
	with(func(s *cart.State) { s.Ticks = nil })
	with(func(s *cart.State) { s.Ticks = s.Ticks[:3] })
	with(func(s *cart.State) { s.Ticks = slices.Delete(s.Ticks, 2, 3) })
	for i := range 5 {
		for _, count := range []uint64{0, maxCount + 1, 1 << 32, math.MaxUint64} {
			entry(i, func(e *cart.Entry) { e.Count = count })
		}
	}
	return l
}

// The chapter's example.
func TestExample(t *testing.T) {
	s := all(t, made(0, 1, api.Add, 4, 2, api.Vec{}), made(0, 2, api.Remove, 4, 0, api.Vec{1}))
	if s.Known != (api.Vec{2}) || len(s.Entries) != 0 || !slices.Equal(s.Ticks, []cart.Last{{Cart: 3, Tick: 5}}) {
		t.Errorf("%+v", s)
	}
}

// P8.1 (Right): states that may be.
func TestRight(t *testing.T) {
	right := func(s cart.State) {
		t.Helper()
		if !cart.Right(s) {
			t.Errorf("not right: %+v", s)
		}
	}
	right(cart.State{})
	right(cart.State{Entries: []cart.Entry{}, Ticks: []cart.Last{}})
	right(base())
	var full api.Vec
	for i := range full {
		full[i] = maxSeq
	}
	right(cart.State{Known: full})
	right(cart.State{Ticks: []cart.Last{{Cart: 0, Tick: maxTick}}})
	for i := range 5 {
		for _, count := range []uint64{1, 2, maxCount - 1, maxCount} {
			s := base()
			s.Entries[i].Count = count
			right(s)
		}
	}
	// The same Seq of two replicas, and the same Rep, are not the same Dot.
	s := base()
	s.Entries[0].Dot = api.Dot{Rep: 0, Seq: 1}
	right(s)
	s.Entries[3].Dot = api.Dot{Rep: 1, Seq: 4}
	right(s)
	// Two entries of one item may be, and a Set of the Item 0 beside an Out.
	s.Entries[2].Item = 65535
	right(s)
	s.Entries[4] = cart.Entry{Cart: 65535, Item: 0, Qty: 0, Kind: api.Set, Dot: api.Dot{Rep: 15, Seq: 1}, Count: 1}
	right(s)
}

// P8.1 (Right): states that may not be.
func TestNotRight(t *testing.T) {
	for i, s := range wrong() {
		kept := clone(s)
		if cart.Right(s) {
			t.Errorf("number %d is right: %+v", i, s)
		}
		if !same(s, kept) {
			t.Errorf("number %d: Right changed it", i)
		}
	}
}

// P8.2 (Apply): a state that is not valid, whatever the operation.
func TestApplyWrong(t *testing.T) {
	for _, s := range wrong() {
		refuse(t, s, made(2, 1, api.Add, 4, 2, api.Vec{}), api.ErrArg)
		refuse(t, s, made(0, 4, api.Add, 4, 2, api.Vec{3}), api.ErrArg)
		refuse(t, s, made(2, 3, api.Add, 4, 2, api.Vec{0, 0, 2}), api.ErrArg)
	}
}

// P8.2 (Apply): the errors of op.Ready.
func TestApplyErrors(t *testing.T) {
	s := base()
	for _, o := range []api.Op{
		made(0, 5, api.Add, 4, 0, api.Vec{4}), made(0, 5, 0, 4, 0, api.Vec{4}), made(0, 5, 6, 4, 0, api.Vec{4}), made(0, 5, api.Remove, 4, 1, api.Vec{4}),
		made(0, 5, api.Out, 4, 0, api.Vec{4}), made(0, 5, api.Clear, 0, 1, api.Vec{4}), made(16, 1, api.Add, 4, 1, api.Vec{}), made(0, 0, api.Add, 4, 1, api.Vec{}),
		made(0, 5, api.Add, 4, 1, api.Vec{3}), made(0, 5, api.Add, 4, 1, api.Vec{5}), made(0, 5, api.Add, 4, 1, api.Vec{4, maxSeq + 1}), made(15, maxSeq+1, api.Add, 4, 1, api.Vec{15: maxSeq}),
		{Dot: api.Dot{Rep: 0, Seq: 5}, Kind: api.Add, Qty: 1, Tick: maxTick + 1, Ctx: api.Vec{4}},
		// An operation that is known and not valid: not being valid comes first.
		made(0, 4, api.Add, 4, 0, api.Vec{3}),
	} {
		refuse(t, s, o, api.ErrArg)
		refuse(t, cart.State{}, o, api.ErrArg)
	}
	refuse(t, s, made(0, 4, api.Add, 4, 1, api.Vec{3}), api.ErrHave)
	refuse(t, s, made(1, 1, api.Clear, 0, 0, api.Vec{}), api.ErrHave)
	refuse(t, s, made(1, 9, api.Clear, 0, 0, api.Vec{5, 8}), api.ErrHave)
	refuse(t, s, made(0, 6, api.Add, 4, 1, api.Vec{5}), api.ErrGap)
	refuse(t, s, made(0, 5, api.Add, 4, 1, api.Vec{4, 10}), api.ErrGap)
	refuse(t, s, made(2, 1, api.Add, 4, 1, api.Vec{5}), api.ErrGap)
	refuse(t, cart.State{}, made(0, 2, api.Add, 4, 1, api.Vec{1}), api.ErrGap)
}

// P8.2 (Apply): what each Kind ends, and what it makes.
func TestApplyKinds(t *testing.T) {
	known := api.Vec{4, 1, 1}
	in := func(c, item, qty uint16, kind uint8, rep uint8, seq uint32) cart.Entry {
		return cart.Entry{Cart: c, Item: item, Qty: qty, Kind: kind, Dot: api.Dot{Rep: rep, Seq: seq}, Count: 3}
	}
	otherCart := in(2, 4, 1, api.Add, 0, 1)
	otherCartOut := in(2, 0, 0, api.Out, 1, 1)
	own := in(3, 4, 1, api.Add, 0, 2)
	ownSet := in(3, 4, 0, api.Set, 0, 3)
	otherItem := in(3, 5, 2, api.Set, 0, 4)
	late := in(3, 4, 9, api.Add, 2, 1)
	s := cart.State{Known: known, Entries: []cart.Entry{otherCart, otherCartOut, own, ownSet, otherItem, late}, Ticks: []cart.Last{{Cart: 2, Tick: 1}, {Cart: 3, Tick: 1}}}
	ctx := api.Vec{4, 1}
	for _, x := range []struct {
		o    api.Op
		left []cart.Entry
	}{
		{made(3, 1, api.Add, 4, 7, ctx), []cart.Entry{otherCart, otherCartOut, own, ownSet, otherItem, late}},
		{made(3, 1, api.Set, 4, 7, ctx), []cart.Entry{otherCart, otherCartOut, otherItem, late}},
		{made(3, 1, api.Set, 6, 0, ctx), []cart.Entry{otherCart, otherCartOut, own, ownSet, otherItem, late}},
		{made(3, 1, api.Remove, 4, 0, ctx), []cart.Entry{otherCart, otherCartOut, otherItem, late}},
		{made(3, 1, api.Remove, 5, 0, ctx), []cart.Entry{otherCart, otherCartOut, own, ownSet, late}},
		{made(3, 1, api.Out, 0, 0, ctx), []cart.Entry{otherCart, otherCartOut, own, ownSet, otherItem, late}},
		{made(3, 1, api.Clear, 0, 0, ctx), []cart.Entry{otherCart, otherCartOut, late}},
		{made(3, 1, api.Clear, 0, 0, api.Vec{2}), []cart.Entry{otherCart, otherCartOut, ownSet, otherItem, late}},
		{made(3, 1, api.Clear, 0, 0, api.Vec{}), []cart.Entry{otherCart, otherCartOut, own, ownSet, otherItem, late}},
		{made(3, 1, api.Clear, 0, 0, known), []cart.Entry{otherCart, otherCartOut}},
	} {
		got := apply(t, s, x.o)
		want := x.left
		if slowMakes(x.o.Kind) {
			want = append(slices.Clone(want), cart.Entry{Cart: 3, Item: x.o.Item, Qty: x.o.Qty, Kind: x.o.Kind, Dot: x.o.Dot, Count: 6})
		}
		if !slices.Equal(got.Entries, want) || got.Known != (api.Vec{4, 1, 1, 1}) {
			t.Errorf("Apply of %+v: %+v, not %+v", x.o, got, want)
		}
	}
	// A Set or a Remove of the Item 0 ends no Out; a Clear does.
	out := all(t, made(0, 1, api.Out, 0, 0, api.Vec{}), made(0, 2, api.Set, 0, 3, api.Vec{1}))
	if len(out.Entries) != 2 || len(apply(t, out, made(1, 1, api.Remove, 0, 0, api.Vec{2})).Entries) != 1 || len(apply(t, out, made(1, 1, api.Clear, 0, 0, api.Vec{2})).Entries) != 0 {
		t.Errorf("%+v", out)
	}
}

// P8.2 (Apply): where an entry is inserted, by Cart, by Rep and by Seq.
func TestApplyOrder(t *testing.T) {
	for seed := range uint64(20) {
		r := random(seed + 1)
		var known api.Vec
		var s cart.State
		for range 60 {
			rep := uint8(r.below(16))
			var ctx api.Vec
			ctx[rep] = known[rep]
			known[rep]++
			o := made(rep, known[rep], api.Add, uint16(r.below(9)), 1, ctx)
			o.Cart = uint16(r.below(4)) * 9000
			s = apply(t, s, o)
		}
		if len(s.Entries) != 60 {
			t.Fatalf("%d entries", len(s.Entries))
		}
	}
}

// P8.2 (Apply): the Tick of a cart that is smaller, the same and greater, of one that is new, and of the greatest dot.
func TestApplyTick(t *testing.T) {
	s := cart.State{Known: api.Vec{15: maxSeq - 1}, Ticks: []cart.Last{{Cart: 3, Tick: 5}, {Cart: 9, Tick: 7}}}
	for _, x := range []struct {
		cart uint16
		tick uint32
		want []cart.Last
	}{
		{3, 4, []cart.Last{{Cart: 3, Tick: 5}, {Cart: 9, Tick: 7}}}, {3, 5, []cart.Last{{Cart: 3, Tick: 5}, {Cart: 9, Tick: 7}}}, {3, 6, []cart.Last{{Cart: 3, Tick: 6}, {Cart: 9, Tick: 7}}},
		{9, maxTick, []cart.Last{{Cart: 3, Tick: 5}, {Cart: 9, Tick: maxTick}}}, {9, 0, []cart.Last{{Cart: 3, Tick: 5}, {Cart: 9, Tick: 7}}},
		{0, 0, []cart.Last{{Cart: 0}, {Cart: 3, Tick: 5}, {Cart: 9, Tick: 7}}}, {4, 2, []cart.Last{{Cart: 3, Tick: 5}, {Cart: 4, Tick: 2}, {Cart: 9, Tick: 7}}},
		{65535, maxTick, []cart.Last{{Cart: 3, Tick: 5}, {Cart: 9, Tick: 7}, {Cart: 65535, Tick: maxTick}}},
	} {
		for kind := uint8(api.Add); kind <= api.Clear; kind++ {
			o := api.Op{Dot: api.Dot{Rep: 15, Seq: maxSeq}, Kind: kind, Cart: x.cart, Tick: x.tick, Ctx: api.Vec{15: maxSeq - 1}}
			if kind == api.Add {
				o.Qty = 1
			}
			if got := apply(t, s, o); !slices.Equal(got.Ticks, x.want) || got.Known[15] != maxSeq {
				t.Errorf("cart %d, tick %d, kind %d: %+v", x.cart, x.tick, kind, got)
			}
		}
	}
}

// P8.2 (Apply): the greatest Count that an operation can have is one that an entry may have.
func TestApplyGreatest(t *testing.T) {
	var known api.Vec
	for i := range known {
		known[i] = maxSeq
	}
	known[7]--
	s := apply(t, cart.State{Known: known}, made(7, maxSeq, api.Set, 4, 1, known))
	if s.Entries[0].Count != 1<<24 {
		t.Errorf("%+v", s.Entries)
	}
}

// P8.3 (Merge): states that are not valid, on either side.
func TestMergeWrong(t *testing.T) {
	for _, s := range wrong() {
		refuseMerge(t, s, base(), api.ErrArg)
		refuseMerge(t, s, cart.State{}, api.ErrArg)
		refuseMerge(t, s, s, api.ErrArg)
		// Entries with the same Dot that differ: not being valid comes first.
		other := base()
		other.Entries[1].Qty = 77
		refuseMerge(t, s, other, api.ErrArg)
	}
}

// P8.3 (Merge): entries with the same Dot that differ in one field each.
func TestMergeDiffers(t *testing.T) {
	for i, change := range []func(e *cart.Entry){
		func(e *cart.Entry) { e.Item++ },
		func(e *cart.Entry) { e.Qty++ },
		func(e *cart.Entry) { e.Kind = api.Set },
		func(e *cart.Entry) { e.Count++ },
		func(e *cart.Entry) { e.Cart = 0 },
	} {
		a, b := base(), base()
		change(&b.Entries[0])
		if !cart.Right(b) {
			t.Fatalf("number %d: %+v", i, b)
		}
		refuseMerge(t, a, b, api.ErrForm)
		// And if that one is the only one.
		a.Entries, b.Entries = a.Entries[:1], b.Entries[:1]
		refuseMerge(t, a, b, api.ErrForm)
	}
	// The last entry, in a cart behind or ahead of others.
	a, b := base(), base()
	b.Entries = slices.Concat(b.Entries[4:], b.Entries[:4])
	b.Entries[0].Cart = 0
	refuseMerge(t, a, b, api.ErrForm)
}

// P8.3 (Merge): entries of both, of one alone that the other one knew, and of one alone that the other one did not know.
func TestMerge(t *testing.T) {
	in := func(c uint16, rep uint8, seq uint32) cart.Entry {
		return cart.Entry{Cart: c, Item: 4, Qty: 1, Kind: api.Add, Dot: api.Dot{Rep: rep, Seq: seq}, Count: 3}
	}
	both, gone, kept, bGone, bKept := in(3, 0, 1), in(3, 0, 2), in(3, 1, 2), in(2, 0, 3), in(3, 2, 1)
	a := cart.State{Known: api.Vec{3, 2}, Entries: []cart.Entry{both, gone, kept}, Ticks: []cart.Last{{Cart: 1, Tick: 5}, {Cart: 3, Tick: 9}, {Cart: 7, Tick: 1}}}
	b := cart.State{Known: api.Vec{4, 1, 1}, Entries: []cart.Entry{bGone, both, bKept}, Ticks: []cart.Last{{Cart: 0, Tick: 4}, {Cart: 2, Tick: 6}, {Cart: 3, Tick: 10}, {Cart: 7}}}
	want := cart.State{
		Known: api.Vec{4, 2, 1}, Entries: []cart.Entry{both, kept, bKept},
		Ticks: []cart.Last{{Cart: 0, Tick: 4}, {Cart: 1, Tick: 5}, {Cart: 2, Tick: 6}, {Cart: 3, Tick: 10}, {Cart: 7, Tick: 1}},
	}
	if got := merge(t, a, b); !same(got, want) {
		t.Errorf("%+v", got)
	}
	for _, s := range []cart.State{a, b, want, base(), {}} {
		if !same(merge(t, s, cart.State{}), s) || !same(merge(t, s, s), s) {
			t.Errorf("%+v", s)
		}
	}
	// The same tick in both stays, and so does a tick of 0.
	c := cart.State{Ticks: []cart.Last{{Cart: 3, Tick: 9}, {Cart: 8}}}
	if got := merge(t, a, c); !slices.Equal(got.Ticks, []cart.Last{{Cart: 1, Tick: 5}, {Cart: 3, Tick: 9}, {Cart: 7, Tick: 1}, {Cart: 8}}) {
		t.Errorf("%+v", got)
	}
	// An entry whose Dot is the greatest that the other one knows, and the first one that it does not know.
	d := cart.State{Known: api.Vec{0, 1}}
	if got := merge(t, a, d); !slices.Equal(got.Entries, a.Entries) {
		t.Errorf("%+v", got)
	}
	d.Known[1] = 2
	if got := merge(t, a, d); !slices.Equal(got.Entries, []cart.Entry{both, gone}) {
		t.Errorf("%+v", got)
	}
}

// P8.3 (Merge): entries of two carts that stand among each other.
func TestMergeOrder(t *testing.T) {
	r := random(3)
	for range 50 {
		var a, b cart.State
		for rep := range uint8(16) {
			s := &a
			if r.below(2) == 0 {
				s = &b
			}
			o := made(rep, 1, api.Add, uint16(r.below(9)), 1, api.Vec{})
			o.Cart = uint16(r.below(3))
			*s = apply(t, *s, o)
		}
		if got := merge(t, a, b); len(got.Entries) != 16 {
			t.Fatalf("%+v", got)
		}
	}
}

// P8.4 (View, Carts) of the zero state, of states that are not valid, and of carts without a tick.
func TestViewNone(t *testing.T) {
	for _, c := range []uint16{0, 2, 3, 65535} {
		for i, s := range append(wrong(), cart.State{}) {
			if got := cart.View(s, c); !sameView(got, api.View{Cart: c}) {
				t.Errorf("number %d: View(%+v, %d) = %+v", i, s, c, got)
			}
			if got := cart.Carts(s); len(got) != 0 {
				t.Errorf("number %d: Carts(%+v) = %v", i, s, got)
			}
		}
	}
	for _, c := range []uint16{1, 4, 65534} {
		if got := cart.View(base(), c); !sameView(got, api.View{Cart: c}) {
			t.Errorf("View(%d) = %+v", c, got)
		}
	}
}

// P8.4 (View, Carts): carts with entries, without one, and one that was checked out.
func TestView(t *testing.T) {
	s := base()
	for _, want := range []api.View{
		{Cart: 0}, {Cart: 2, Lines: []api.Line{{Item: 7, Qty: 1}}, Tick: maxTick},
		{Cart: 3, Lines: []api.Line{{Item: 0, Qty: 65535}, {Item: 8, Qty: 65535}, {Item: 65535, Qty: 0}}, Tick: 1}, {Cart: 65535, Out: true, Tick: 9},
	} {
		if got := cart.View(s, want.Cart); !sameView(got, want) || !sameView(got, slowView(s, want.Cart)) {
			t.Errorf("View(%d) = %+v", want.Cart, got)
		}
	}
	if got := cart.Carts(s); !slices.Equal(got, []uint16{0, 2, 3, 65535}) {
		t.Errorf("Carts = %v", got)
	}
	if !same(s, base()) {
		t.Errorf("the state was changed to %+v", s)
	}
}

// P8.4 (View): of several Sets of one item the one counts that none is Less than, by Count, by Rep and by Seq; Adds are added to it.
func TestViewSets(t *testing.T) {
	in := func(rep uint8, seq uint32, qty uint16, kind uint8, count uint64) cart.Entry {
		return cart.Entry{Cart: 3, Item: 4, Qty: qty, Kind: kind, Dot: api.Dot{Rep: rep, Seq: seq}, Count: count}
	}
	add := in(9, 1, 100, api.Add, 7)
	for _, x := range []struct {
		l    []cart.Entry
		want uint32
	}{
		{[]cart.Entry{in(0, 1, 1, api.Set, 6), in(1, 9, 2, api.Set, 5), in(2, 9, 4, api.Set, 4)}, 1},
		{[]cart.Entry{in(0, 1, 1, api.Set, 4), in(1, 9, 2, api.Set, 6), in(2, 9, 4, api.Set, 5)}, 2},
		{[]cart.Entry{in(0, 9, 1, api.Set, 5), in(1, 8, 2, api.Set, 5), in(2, 7, 4, api.Set, 5)}, 4},
		{[]cart.Entry{in(1, 7, 1, api.Set, 5), in(1, 8, 2, api.Set, 5), in(1, 9, 4, api.Set, 5)}, 4},
		{[]cart.Entry{in(1, 7, 4, api.Set, 5), in(1, 8, 2, api.Set, 5), in(1, 9, 0, api.Set, 5)}, 0},
		{[]cart.Entry{in(1, 1, 9, api.Set, 1), in(1, 8, 2, api.Set, 5), add}, 102},
		{[]cart.Entry{in(1, 1, 9, api.Set, 6), in(1, 8, 2, api.Set, 5), add}, 109},
		{[]cart.Entry{in(1, 1, 9, api.Set, maxCount), in(1, 8, 2, api.Set, 1<<24), add}, 109},
		{[]cart.Entry{in(0, 1, 0, api.Set, 1)}, 0}, {[]cart.Entry{in(0, 1, 7, api.Set, 1)}, 7}, {[]cart.Entry{add}, 100},
		{[]cart.Entry{in(0, 1, 65535, api.Add, 1)}, 65535}, {[]cart.Entry{in(0, 1, 65535, api.Add, 1), in(0, 2, 1, api.Add, 1)}, 65536},
		{[]cart.Entry{in(0, 1, 65535, api.Add, 1), in(0, 2, 65535, api.Set, 1)}, 131070}, {[]cart.Entry{in(0, 1, 1, api.Add, 1), in(0, 2, 65535, api.Set, 1)}, 65536},
	} {
		s := cart.State{Known: api.Vec{9, 9, 9, 9: 9}, Entries: x.l, Ticks: []cart.Last{{Cart: 3, Tick: 2}}}
		want := api.View{Cart: 3, Lines: []api.Line{{Item: 4, Qty: x.want}}, Tick: 2}
		if got := cart.View(s, 3); !sameView(got, want) || !sameView(got, slowView(s, 3)) {
			t.Errorf("View(%+v) = %+v, not %+v", s, got, want)
		}
	}
}

// P8.4 (View): the sum is taken modulo 2^32.
func TestViewWraps(t *testing.T) {
	s := cart.State{Known: api.Vec{70000, 1, 1}, Ticks: []cart.Last{{Cart: 3}}}
	for i := range uint32(65537) {
		s.Entries = append(s.Entries, cart.Entry{Cart: 3, Item: 4, Qty: 65535, Kind: api.Add, Dot: api.Dot{Seq: i + 1}, Count: 1})
	}
	one := cart.Entry{Cart: 3, Item: 4, Qty: 1, Kind: api.Add, Dot: api.Dot{Rep: 1, Seq: 1}, Count: 1}
	set := cart.Entry{Cart: 3, Item: 4, Qty: 5, Kind: api.Set, Dot: api.Dot{Rep: 2, Seq: 1}, Count: 1}
	// 65537 times 65535 is 2^32 - 1.
	for _, x := range []struct {
		more []cart.Entry
		want uint32
	}{{nil, top}, {[]cart.Entry{one}, 0}, {[]cart.Entry{set}, 4}, {[]cart.Entry{one, set}, 5}} {
		full := cart.State{Known: s.Known, Entries: slices.Concat(s.Entries, x.more), Ticks: s.Ticks}
		if got := cart.View(full, 3); !slices.Equal(got.Lines, []api.Line{{Item: 4, Qty: x.want}}) {
			t.Errorf("View = %+v, not %d", got, x.want)
		}
	}
}

// spoil writes to all of a state's memory, and behind its lists as far as they reach.
func spoil(s cart.State) {
	entries, ticks := s.Entries[:cap(s.Entries)], s.Ticks[:cap(s.Ticks)]
	for i := range entries {
		entries[i] = cart.Entry{Cart: 77, Qty: 77}
	}
	for i := range ticks {
		ticks[i] = cart.Last{Cart: 77, Tick: 77}
	}
}

// R6: what was returned and what was passed share no memory.
func TestMemory(t *testing.T) {
	ops := []api.Op{made(0, 5, api.Add, 4, 1, api.Vec{4}), made(0, 5, api.Remove, 8, 0, api.Vec{4, 9}), made(0, 5, api.Remove, 9, 0, api.Vec{4}), made(0, 5, api.Clear, 0, 0, api.Vec{4, 9})}
	elsewhere := made(0, 5, api.Add, 4, 1, api.Vec{4})
	elsewhere.Cart, elsewhere.Tick = 4, 8
	for _, o := range append(ops, elsewhere) {
		s := base()
		// Room behind the lists must not be written to.
		s.Entries = append(make([]cart.Entry, 0, 20), s.Entries...)
		s.Ticks = append(make([]cart.Last, 0, 20), s.Ticks...)
		got, _ := cart.Apply(s, o)
		again := clone(got)
		spoil(got)
		if !same(s, base()) || s.Entries[:20][5] != (cart.Entry{}) || s.Ticks[:20][4] != (cart.Last{}) {
			t.Errorf("Apply wrote to what it was passed, or returned it: %+v", s)
		}
		got, _ = cart.Apply(s, o)
		spoil(s)
		if !same(got, again) {
			t.Errorf("what Apply returned was changed to %+v", got)
		}
	}
	for _, other := range []cart.State{{}, base(), {Known: api.Vec{9}}, {Ticks: []cart.Last{{Cart: 3, Tick: 99}}}} {
		for _, turned := range []bool{false, true} {
			a, b := base(), clone(other)
			if turned {
				a, b = b, a
			}
			keptA, keptB := clone(a), clone(b)
			got, _ := cart.Merge(a, b)
			again := clone(got)
			spoil(got)
			if !same(a, keptA) || !same(b, keptB) {
				t.Errorf("Merge returned what it was passed: %+v, %+v", a, b)
			}
			got, _ = cart.Merge(a, b)
			spoil(a)
			spoil(b)
			if !same(got, again) {
				t.Errorf("what Merge returned was changed to %+v", got)
			}
		}
	}
	s := base()
	carts, view := cart.Carts(s), cart.View(s, 3)
	clear(carts)
	clear(view.Lines)
	if !same(s, base()) || !slices.Equal(cart.Carts(s), []uint16{0, 2, 3, 65535}) || len(cart.View(s, 3).Lines) != 3 || cart.View(s, 3).Lines[2].Item != 65535 {
		t.Error("View or Carts returned something that is kept")
	}
}

// P8.5 (fold): the state of the operations, whatever the order, and fold's View and Carts.
func TestFold(t *testing.T) {
	r := random(11)
	lines, outs := 0, 0
	for seed := range uint64(40) {
		l := history(1+int(seed%16), 50+int(seed), seed)
		want := slowOf(l)
		for range 4 {
			order := mixed(l, &r)
			if !fold.Closed(order) {
				t.Fatal("not closed")
			}
			if got := all(t, order...); !same(got, want) {
				t.Fatalf("the state of %+v is %+v, not %+v", order, got, want)
			}
		}
		for c := uint16(0); c < 5; c++ {
			v := cart.View(want, c)
			if !sameView(v, fold.View(l, c)) {
				t.Fatalf("View(%+v, %d) = %+v, not %+v", want, c, v, fold.View(l, c))
			}
			lines += len(v.Lines)
			if v.Out {
				outs++
			}
		}
		if !slices.Equal(cart.Carts(want), fold.Carts(l)) {
			t.Fatalf("Carts(%+v) = %v", want, cart.Carts(want))
		}
	}
	if lines < 100 || outs < 20 {
		t.Errorf("only %d lines, %d checked out", lines, outs)
	}
}

// P8.5 (fold) of a list that is closed, in which an operation knew less than one that it knew.
func TestFoldNoHistory(t *testing.T) {
	a := made(0, 1, api.Add, 4, 2, api.Vec{})
	b := made(1, 1, api.Remove, 4, 0, api.Vec{1})
	c := made(2, 1, api.Set, 4, 1, api.Vec{0, 1})
	d := made(3, 1, api.Clear, 0, 0, api.Vec{0, 0, 1})
	for _, l := range [][]api.Op{{a, b, c}, {a, b, c, d}} {
		if got := all(t, l...); !same(got, slowOf(l)) || !sameView(cart.View(got, 3), fold.View(l, 3)) {
			t.Errorf("%+v", got)
		}
	}
}

// P8.6 (join): the merge of the states of two closed parts of one history is the state of both together.
func TestJoin(t *testing.T) {
	r := random(12)
	for seed := range uint64(60) {
		l := history(2+int(seed%15), 40+int(seed), seed)
		var states []cart.State
		var parts [][]api.Op
		for range 5 {
			p := part(l, &r)
			parts = append(parts, p)
			states = append(states, slowOf(p))
		}
		for i, a := range states {
			for j, b := range states {
				var v api.Vec
				for k := range v {
					v[k] = max(a.Known[k], b.Known[k])
				}
				if got, want := merge(t, a, b), slowOf(under(l, v)); !same(got, want) {
					t.Fatalf("the merge of %+v and %+v is %+v, not %+v", parts[i], parts[j], got, want)
				}
			}
			if !same(merge(t, a, a), a) {
				t.Fatalf("not idempotent: %+v", a)
			}
		}
		x, y := merge(t, merge(t, states[0], states[1]), states[2]), merge(t, states[0], merge(t, states[1], states[2]))
		if !same(x, y) {
			t.Fatalf("not associative: %+v, %+v", x, y)
		}
	}
}
