package fold_test

import (
	"math"
	"slices"
	"sort"
	"testing"

	"trug/api"
	"trug/fold"
)

const (
	top    = math.MaxUint32
	maxSeq = 1 << 20
)

// The slow functions read the chapter word by word, so that they owe nothing to the package nor to those below it.

func slowValid(d api.Dot) bool {
	return d.Rep < 16 && d.Seq >= 1 && d.Seq <= maxSeq
}

func slowHas(v api.Vec, d api.Dot) bool {
	return slowValid(d) && d.Seq <= v[d.Rep]
}

func slowCount(o api.Op) uint64 {
	sum := uint64(1)
	for i := 0; i < 16; i++ {
		sum += uint64(o.Ctx[i])
	}
	return sum
}

func slowLess(a, b api.Op) bool {
	ca, cb := slowCount(a), slowCount(b)
	return ca < cb || ca == cb && (a.Dot.Rep < b.Dot.Rep || a.Dot.Rep == b.Dot.Rep && a.Dot.Seq < b.Dot.Seq)
}

func slowMakes(o api.Op) bool {
	return o.Kind == 1 || o.Kind == 2 || o.Kind == 4
}

func slowEnds(o, entry api.Op) bool {
	takes := (o.Kind == 3 || o.Kind == 2) && entry.Kind != 4 && o.Item == entry.Item
	return slowMakes(entry) && o.Cart == entry.Cart && slowHas(o.Ctx, entry.Dot) && (o.Kind == 5 || takes)
}

func slowLive(l []api.Op) []bool {
	live := make([]bool, len(l))
	for i, entry := range l {
		live[i] = slowMakes(entry)
		for _, o := range l {
			live[i] = live[i] && !slowEnds(o, entry)
		}
	}
	return live
}

func slowCarts(l []api.Op) []uint16 {
	var carts []uint16
	for cart := 0; cart < 1<<16; cart++ {
		for _, o := range l {
			if int(o.Cart) == cart {
				carts = append(carts, o.Cart)
				break
			}
		}
	}
	return carts
}

// slowQty is the number of an item in a cart, and whether there is a line of it.
func slowQty(l []api.Op, live []bool, cart, item uint16) (qty uint64, found bool) {
	var sets []api.Op
	for i, o := range l {
		if !live[i] || o.Cart != cart || o.Item != item || o.Kind == 4 {
			continue
		}
		found = true
		if o.Kind == 1 {
			qty += uint64(o.Qty)
		} else {
			sets = append(sets, o)
		}
	}
	for _, a := range sets {
		less := false
		for _, b := range sets {
			less = less || slowLess(a, b)
		}
		if !less {
			return qty + uint64(a.Qty), true
		}
	}
	return qty, found
}

func slowView(l []api.Op, cart uint16) api.View {
	live := slowLive(l)
	v := api.View{Cart: cart}
	items := map[int]bool{}
	for i, o := range l {
		if o.Cart != cart {
			continue
		}
		items[int(o.Item)] = true
		v.Out = v.Out || live[i] && o.Kind == 4
		if o.Tick > v.Tick {
			v.Tick = o.Tick
		}
	}
	var rising []int
	for item := range items {
		rising = append(rising, item)
	}
	sort.Ints(rising)
	for _, item := range rising {
		if qty, found := slowQty(l, live, cart, uint16(item)); found {
			v.Lines = append(v.Lines, api.Line{Item: uint16(item), Qty: uint32(qty % (1 << 32))})
		}
	}
	return v
}

// slowClosed must not be asked for numbers that are too great to count up to.
func slowClosed(l []api.Op) bool {
	has := func(d api.Dot) int {
		count := 0
		for _, o := range l {
			if o.Dot == d {
				count++
			}
		}
		return count
	}
	for _, o := range l {
		if !slowValid(o.Dot) || has(o.Dot) != 1 {
			return false
		}
		for rep := 0; rep < 16; rep++ {
			for seq := uint32(1); seq <= o.Ctx[rep]; seq++ {
				if has(api.Dot{Rep: uint8(rep), Seq: seq}) == 0 {
					return false
				}
			}
		}
	}
	return true
}

func sameView(a, b api.View) bool {
	return a.Cart == b.Cart && a.Out == b.Out && a.Tick == b.Tick && slices.Equal(a.Lines, b.Lines)
}

// check holds everything that is told of a list against the chapter's words, and looks whether the list is as it was (R6).
func check(t *testing.T, l []api.Op) {
	t.Helper()
	kept := slices.Clone(l)
	if got, want := fold.Live(l), slowLive(l); !slices.Equal(got, want) {
		t.Fatalf("Live(%+v) = %v, not %v", l, got, want)
	}
	for cart := uint16(0); cart < 5; cart++ {
		if got, want := fold.View(l, cart), slowView(l, cart); !sameView(got, want) {
			t.Fatalf("View(%+v, %d) = %+v, not %+v", l, cart, got, want)
		}
	}
	if got, want := fold.Closed(l), slowClosed(l); got != want {
		t.Fatalf("Closed(%+v) = %v", l, got)
	}
	fold.Carts(l)
	fold.Under(l, api.Vec{1, 1})
	if !slices.Equal(l, kept) {
		t.Fatalf("the list was changed to %+v", l)
	}
}

// made is an operation of cart 3.
func made(rep uint8, seq uint32, kind uint8, item, qty uint16, ctx api.Vec) api.Op {
	return api.Op{Dot: api.Dot{Rep: rep, Seq: seq}, Kind: kind, Cart: 3, Item: item, Qty: qty, Tick: 5, Ctx: ctx}
}

// checkLines holds the lines of cart 3 against items and their numbers, in turn.
func checkLines(t *testing.T, l []api.Op, numbers ...uint32) {
	t.Helper()
	var want []api.Line
	for i := 0; i < len(numbers); i += 2 {
		want = append(want, api.Line{Item: uint16(numbers[i]), Qty: numbers[i+1]})
	}
	if got := fold.View(l, 3); !slices.Equal(got.Lines, want) || got.Cart != 3 {
		t.Errorf("View = %+v, not %v", got, want)
	}
	check(t, l)
}

// random is a source of numbers that are the same each time.
type random uint64

func (r *random) below(n int) int {
	x := uint64(*r)
	x ^= x << 13
	x ^= x >> 7
	x ^= x << 17
	*r = random(x)
	return int(x >> 33 % uint64(n))
}

// history makes operations of some replicas for carts 0 to 3, each of which knows what its replica has seen; now and then one sees all that another one has.
func history(reps, length int, seed uint64) []api.Op {
	r := random(seed*2862933555777941757 + 88172645463325252)
	seen := make([]api.Vec, reps)
	var l []api.Op
	for len(l) < length {
		rep := r.below(reps)
		if r.below(3) == 0 {
			for i, number := range seen[r.below(reps)] {
				seen[rep][i] = max(seen[rep][i], number)
			}
			continue
		}
		o := api.Op{Dot: api.Dot{Rep: uint8(rep), Seq: seen[rep][rep] + 1}, Cart: uint16(r.below(4)), Tick: uint32(r.below(100)), Ctx: seen[rep]}
		switch n := r.below(20); {
		case n < 9:
			o.Kind, o.Item, o.Qty = api.Add, uint16(r.below(4)), uint16(1+r.below(9))
		case n < 15:
			o.Kind, o.Item, o.Qty = api.Set, uint16(r.below(4)), uint16(r.below(9))
		case n < 17:
			o.Kind, o.Item = api.Remove, uint16(r.below(4))
		case n < 19:
			o.Kind = api.Out
		default:
			o.Kind = api.Clear
		}
		l = append(l, o)
		seen[rep][rep]++
	}
	return l
}

// orders are several orders of one list, itself among them.
func orders(l []api.Op) [][]api.Op {
	back := slices.Clone(l)
	slices.Reverse(back)
	all := [][]api.Op{l, back}
	r := random(77)
	for range 6 {
		mixed := slices.Clone(l)
		for i := len(mixed) - 1; i > 0; i-- {
			j := r.below(i + 1)
			mixed[i], mixed[j] = mixed[j], mixed[i]
		}
		all = append(all, mixed)
	}
	return all
}

// The chapter's example.
func TestExample(t *testing.T) {
	a := made(0, 1, api.Add, 4, 2, api.Vec{})
	b := made(1, 1, api.Add, 4, 3, api.Vec{})
	c := made(2, 1, api.Set, 4, 1, api.Vec{1})
	d := made(2, 2, api.Clear, 0, 0, api.Vec{1, 1, 1})
	checkLines(t, []api.Op{a, b}, 4, 5)
	checkLines(t, []api.Op{a, b, c}, 4, 4)
	checkLines(t, []api.Op{a, b, c, d})
}

// P7.1, P7.2 and P7.3 with no operations at all.
func TestNothing(t *testing.T) {
	for _, l := range [][]api.Op{nil, {}} {
		check(t, l)
		if got := fold.View(l, 9); !sameView(got, api.View{Cart: 9}) {
			t.Errorf("View = %+v", got)
		}
		if len(fold.Carts(l)) != 0 || len(fold.Under(l, api.Vec{top, top})) != 0 || len(fold.Live(l)) != 0 || !fold.Closed(l) {
			t.Error("something is told of nothing")
		}
	}
}

// P7.1 (Live): which kinds make entries, and that each of them is ended by the kinds that may.
func TestLiveKinds(t *testing.T) {
	for kind := range 256 {
		entry := made(0, 1, uint8(kind), 0, 1, api.Vec{})
		makes := kind == api.Add || kind == api.Set || kind == api.Out
		if got := fold.Live([]api.Op{entry}); !slices.Equal(got, []bool{makes}) {
			t.Errorf("Live of the kind %d alone: %v", kind, got)
		}
		for other := range 256 {
			o := made(1, 1, uint8(other), 0, 1, api.Vec{1})
			otherMakes := other == api.Add || other == api.Set || other == api.Out
			ends := other == api.Clear || kind != api.Out && (other == api.Set || other == api.Remove)
			want := []bool{makes && !ends, otherMakes}
			if got := fold.Live([]api.Op{entry, o}); !slices.Equal(got, want) {
				t.Errorf("Live of the kinds %d and %d: %v", kind, other, got)
			}
			if got := fold.Live([]api.Op{o, entry}); !slices.Equal(got, []bool{want[1], want[0]}) {
				t.Errorf("Live of the kinds %d and %d, turned: %v", kind, other, got)
			}
		}
	}
}

// P7.1 (Live): an operation that another cart's or another item's operation knew lives on; one that several knew in part is ended by the one that knew it.
func TestLiveOthers(t *testing.T) {
	entry := made(0, 2, api.Add, 4, 2, api.Vec{1})
	for _, kind := range []uint8{api.Set, api.Remove, api.Clear} {
		otherCart := made(1, 1, kind, 4, 0, api.Vec{2})
		otherCart.Cart = 2
		otherItem := made(1, 1, kind, 5, 0, api.Vec{2})
		earlier := made(1, 1, kind, 4, 0, api.Vec{1, 0, top})
		later := made(2, 1, kind, 4, 0, api.Vec{2})
		for _, x := range []struct {
			o    []api.Op
			live bool
		}{
			{nil, true}, {[]api.Op{otherCart}, true}, {[]api.Op{otherItem}, kind != api.Clear}, {[]api.Op{earlier}, true}, {[]api.Op{later}, false},
			{[]api.Op{otherCart, earlier}, true}, {[]api.Op{earlier, later}, false}, {[]api.Op{later, earlier}, false}, {[]api.Op{later, otherCart}, false},
		} {
			l := append([]api.Op{entry}, x.o...)
			for _, order := range orders(l) {
				if got := fold.Live(order); got[slices.Index(order, entry)] != x.live {
					t.Errorf("Live(%+v) = %v", order, got)
				}
			}
			l[0].Dot.Rep = 17
			check(t, l)
		}
	}
	// Its own Ctx may have its Dot, which no valid operation's does.
	own := made(0, 1, api.Set, 4, 1, api.Vec{1})
	if fold.Live([]api.Op{own})[0] {
		t.Error("a Set that knew itself is live")
	}
	own.Kind = api.Add
	if !fold.Live([]api.Op{own})[0] {
		t.Error("an Add that knew itself is not live")
	}
}

// P7.1 (Live) with items of a Clear and an Out that no valid operation has.
func TestLiveClearItem(t *testing.T) {
	a := made(0, 1, api.Add, 4, 2, api.Vec{})
	b := made(1, 1, api.Out, 7, 0, api.Vec{})
	c := made(2, 1, api.Clear, 9, 0, api.Vec{1})
	d := made(3, 1, api.Clear, 8, 0, api.Vec{0, 1})
	e := made(4, 1, api.Remove, 7, 0, api.Vec{1, 1})
	for _, l := range [][]api.Op{{a, b, c}, {a, b, d}, {a, b, c, d}, {a, b, d, c}, {a, b, e}} {
		check(t, l)
	}
}

// P7.1 (Carts): in increasing order, each once, whatever the kind.
func TestCarts(t *testing.T) {
	var l []api.Op
	for i, cart := range []uint16{7, 3, 65535, 7, 0, 3, 3, 256, 7, 255} {
		o := made(uint8(i), 1, uint8(i), 1, 1, api.Vec{})
		o.Cart = cart
		l = append(l, o)
	}
	want := []uint16{0, 3, 7, 255, 256, 65535}
	if got := fold.Carts(l); !slices.Equal(got, want) || !slices.Equal(got, slowCarts(l)) {
		t.Errorf("Carts = %v", got)
	}
	if got := fold.Carts(l[1:2]); !slices.Equal(got, []uint16{3}) {
		t.Errorf("Carts of one = %v", got)
	}
}

// P7.1 (Under): with vectors that have none, some and all of the dots; the order is that of l, and nothing is left out twice.
func TestUnder(t *testing.T) {
	a := made(1, 2, api.Add, 4, 2, api.Vec{})
	b := made(0, 1, api.Clear, 0, 0, api.Vec{9})
	c := made(1, 1, api.Set, 4, 1, api.Vec{})
	d := made(15, maxSeq, api.Remove, 4, 0, api.Vec{})
	bad := []api.Op{made(16, 1, api.Add, 4, 1, api.Vec{}), made(0, 0, api.Add, 4, 1, api.Vec{}), made(0, maxSeq+1, api.Add, 4, 1, api.Vec{}), made(255, top, 0, 0, 0, api.Vec{})}
	all := append([]api.Op{a, b, c, d, a}, bad...)
	var full api.Vec
	for i := range full {
		full[i] = top
	}
	for _, x := range []struct {
		v    api.Vec
		want []api.Op
	}{
		{api.Vec{}, nil}, {api.Vec{0, 1}, []api.Op{c}}, {api.Vec{1, 1}, []api.Op{b, c}}, {api.Vec{0, 2}, []api.Op{a, c, a}}, {api.Vec{1, 2}, []api.Op{a, b, c, a}},
		{api.Vec{15: maxSeq - 1}, nil}, {api.Vec{15: maxSeq}, []api.Op{d}}, {full, []api.Op{a, b, c, d, a}},
	} {
		if got := fold.Under(all, x.v); !slices.Equal(got, x.want) {
			t.Errorf("Under(%v) = %+v", x.v, got)
		}
	}
}

// P7.2 (View): a cart without an operation, whatever there is of other carts.
func TestViewNone(t *testing.T) {
	l := []api.Op{made(0, 1, api.Add, 4, 2, api.Vec{}), made(0, 2, api.Out, 0, 0, api.Vec{1})}
	for _, cart := range []uint16{0, 2, 4, 65535} {
		if got := fold.View(l, cart); !sameView(got, api.View{Cart: cart}) {
			t.Errorf("View(%d) = %+v", cart, got)
		}
	}
}

// P7.2 (Lines): items in an order that is not increasing; live Adds alone; Adds beside a Set.
func TestLines(t *testing.T) {
	a := made(0, 1, api.Add, 65535, 2, api.Vec{})
	b := made(1, 1, api.Add, 4, 3, api.Vec{})
	c := made(2, 1, api.Set, 300, 1, api.Vec{})
	d := made(3, 1, api.Add, 0, 8, api.Vec{})
	e := made(4, 1, api.Add, 300, 10, api.Vec{})
	f := made(5, 1, api.Add, 300, 100, api.Vec{})
	checkLines(t, []api.Op{a, b, c, d}, 0, 8, 4, 3, 300, 1, 65535, 2)
	checkLines(t, []api.Op{e, f}, 300, 110)
	checkLines(t, []api.Op{e, c, f}, 300, 111)
	checkLines(t, []api.Op{c}, 300, 1)
	// A Remove takes what it knew, not what it did not.
	checkLines(t, []api.Op{c, e, made(6, 1, api.Remove, 300, 0, api.Vec{0, 0, 1})}, 300, 10)
	// An Out has the Item 0, but is no line of it, and a Set of 0 does not end it.
	checkLines(t, []api.Op{made(0, 1, api.Out, 0, 0, api.Vec{})})
	checkLines(t, []api.Op{made(0, 1, api.Out, 0, 0, api.Vec{}), made(0, 2, api.Set, 0, 6, api.Vec{1})}, 0, 6)
}

// P7.2 (Lines): of several live Sets the one counts that is not Less than any other, by Count, by Rep and by Seq.
func TestSets(t *testing.T) {
	count := made(0, 1, api.Set, 4, 1, api.Vec{0, 0, 0, 5})
	rep := made(2, 1, api.Set, 4, 2, api.Vec{0, 0, 0, 4})
	low := made(1, 9, api.Set, 4, 4, api.Vec{0, 0, 0, 4})
	seq := made(2, 2, api.Set, 4, 8, api.Vec{0, 0, 0, 4})
	add := made(5, 1, api.Add, 4, 100, api.Vec{})
	for _, x := range []struct {
		l    []api.Op
		want uint32
	}{
		{[]api.Op{count, rep, low, seq}, 1}, {[]api.Op{rep, low}, 2}, {[]api.Op{rep, seq}, 8}, {[]api.Op{rep, low, seq, add}, 108}, {[]api.Op{low, add}, 104}, {[]api.Op{low, count, add}, 101},
	} {
		for _, l := range orders(x.l) {
			checkLines(t, l, 4, x.want)
		}
	}
	// A Set whose Dot and Ctx are zero is Less than none of those alike.
	zero := made(0, 0, api.Set, 4, 7, api.Vec{})
	checkLines(t, []api.Op{zero}, 4, 7)
	checkLines(t, []api.Op{zero, add}, 4, 107)
}

// P7.2 (Lines): of two Sets that are alike but for their Qty the first of l counts.
func TestSetsAlike(t *testing.T) {
	a := made(2, 1, api.Set, 4, 2, api.Vec{0, 0, 0, 4})
	b, c := a, a
	b.Qty, b.Ctx = 9, api.Vec{0, 0, 0, 0, 4}
	c.Qty = 0
	less := made(1, 1, api.Set, 4, 50, api.Vec{0, 0, 0, 4})
	for _, x := range []struct {
		l    []api.Op
		want uint32
	}{
		{[]api.Op{a, b, c}, 2}, {[]api.Op{b, c, a}, 9}, {[]api.Op{c, a, b}, 0}, {[]api.Op{less, b, a}, 9}, {[]api.Op{a, less, b}, 2}, {[]api.Op{a, a}, 2},
	} {
		checkLines(t, x.l, 4, x.want)
	}
}

// P7.2 (Lines): a live Set of Qty 0 is a line, and so is an Add of Qty 0, which no valid operation is.
func TestZeroQty(t *testing.T) {
	set := made(0, 1, api.Set, 4, 0, api.Vec{})
	checkLines(t, []api.Op{set}, 4, 0)
	checkLines(t, []api.Op{set, made(1, 1, api.Add, 4, 3, api.Vec{})}, 4, 3)
	checkLines(t, []api.Op{made(1, 1, api.Add, 4, 0, api.Vec{})}, 4, 0)
	checkLines(t, []api.Op{set, made(0, 2, api.Remove, 4, 0, api.Vec{1})})
}

// P7.2 (Lines): sums at and above the greatest uint16.
func TestGreatSums(t *testing.T) {
	a := made(0, 1, api.Add, 4, 65535, api.Vec{})
	b := made(1, 1, api.Add, 4, 1, api.Vec{})
	c := made(2, 1, api.Set, 4, 65535, api.Vec{})
	checkLines(t, []api.Op{a}, 4, 65535)
	checkLines(t, []api.Op{a, b}, 4, 65536)
	checkLines(t, []api.Op{a, c}, 4, 131070)
	checkLines(t, []api.Op{b, c}, 4, 65536)
	checkLines(t, []api.Op{a, b, c}, 4, 131071)
}

// P7.2 (Lines): the sum is taken modulo 2^32, be it the Adds or the Set that goes beyond.
func TestSumWraps(t *testing.T) {
	var l []api.Op
	for i := range uint32(65537) {
		l = append(l, made(uint8(i%16), 1+i/16, api.Add, 4, 65535, api.Vec{}))
	}
	// 65537 times 65535 is 2^32 - 1.
	one := made(3, 9000, api.Add, 4, 1, api.Vec{})
	set := made(4, 9000, api.Set, 4, 5, api.Vec{})
	for _, x := range []struct {
		more []api.Op
		want uint32
	}{{nil, top}, {[]api.Op{one}, 0}, {[]api.Op{set}, 4}, {[]api.Op{one, set}, 5}} {
		all := append(slices.Clone(l), x.more...)
		if got := fold.View(all, 3); !slices.Equal(got.Lines, []api.Line{{Item: 4, Qty: x.want}}) {
			t.Errorf("View = %+v, not %d", got, x.want)
		}
	}
}

// P7.2 (Out): while an Out of the cart is live; only a Clear that knew it ends it.
func TestOut(t *testing.T) {
	out := made(0, 1, api.Out, 0, 0, api.Vec{})
	knew := made(1, 1, api.Clear, 0, 0, api.Vec{1})
	blind := made(2, 1, api.Clear, 0, 0, api.Vec{})
	second := made(3, 1, api.Out, 0, 0, api.Vec{})
	elsewhere := second
	elsewhere.Cart = 2
	for _, x := range []struct {
		l   []api.Op
		out bool
	}{
		{[]api.Op{out}, true}, {[]api.Op{out, knew}, false}, {[]api.Op{knew, out}, false}, {[]api.Op{out, blind}, true}, {[]api.Op{out, knew, second}, true}, {[]api.Op{second, out, knew}, true},
		{[]api.Op{knew}, false}, {[]api.Op{elsewhere}, false}, {[]api.Op{out, knew, elsewhere}, false}, {[]api.Op{made(0, 1, api.Set, 4, 1, api.Vec{})}, false},
	} {
		check(t, x.l)
		if got := fold.View(x.l, 3); got.Out != x.out {
			t.Errorf("View(%+v) = %+v", x.l, got)
		}
	}
}

// P7.2 (Tick): the greatest of all the cart's operations, at whichever of them it stands.
func TestTick(t *testing.T) {
	l := []api.Op{
		made(0, 1, api.Add, 4, 2, api.Vec{}), made(1, 1, api.Set, 4, 1, api.Vec{1}), made(2, 1, api.Out, 0, 0, api.Vec{}), made(0, 2, api.Remove, 4, 0, api.Vec{1}),
		made(0, 3, api.Clear, 0, 0, api.Vec{2, 1}), made(3, 1, 9, 0, 0, api.Vec{}),
	}
	for i := range l {
		for _, tick := range []uint32{6, 1 << 30, top} {
			x := slices.Clone(l)
			x[i].Tick = tick
			other := x[i]
			other.Cart, other.Tick = 2, top
			x = append(x, other)
			check(t, x)
			if got := fold.View(x, 3); got.Tick != tick {
				t.Errorf("View(%+v) = %+v", x, got)
			}
		}
	}
	if got := fold.View([]api.Op{{Cart: 3}}, 3); got.Tick != 0 {
		t.Errorf("a Tick of 0 is %d", got.Tick)
	}
}

func checkClosed(t *testing.T, l []api.Op, want bool) {
	t.Helper()
	for _, order := range orders(l) {
		if got := fold.Closed(order); got != want {
			t.Errorf("Closed(%+v) = %v", order, got)
		}
	}
}

// P7.3 (Closed): Dots that are not valid, at each edge.
func TestClosedNotValid(t *testing.T) {
	first := made(0, 1, api.Add, 4, 1, api.Vec{})
	for _, rep := range []uint8{0, 1, 15, 16, 17, 255} {
		for _, seq := range []uint32{0, 1, 2, maxSeq - 1, maxSeq, maxSeq + 1, top} {
			o := made(rep, seq, api.Add, 4, 1, api.Vec{})
			checkClosed(t, []api.Op{o}, slowValid(o.Dot))
			checkClosed(t, []api.Op{o, first}, slowValid(o.Dot) && o.Dot != first.Dot)
		}
	}
}

// P7.3 (Closed): two Dots that are alike; dots that a Ctx has and the list does not, at the highest number and below it; all of them there.
func TestClosed(t *testing.T) {
	a := made(0, 1, api.Add, 4, 1, api.Vec{})
	b := made(0, 2, api.Add, 4, 1, api.Vec{1})
	c := made(0, 3, api.Add, 4, 1, api.Vec{2})
	d := made(15, 1, api.Clear, 0, 0, api.Vec{3})
	e := made(1, 1, api.Clear, 0, 0, api.Vec{2, 0, 15: 1})
	alike := made(0, 2, api.Out, 4, 9, api.Vec{})
	alike.Cart = 1
	for _, x := range []struct {
		l    []api.Op
		want bool
	}{
		{[]api.Op{a, a}, false}, {[]api.Op{a, b, b}, false}, {[]api.Op{a, b, alike}, false}, {[]api.Op{a, alike}, true}, {[]api.Op{alike}, true},
		{[]api.Op{a, b, c, d, e}, true}, {[]api.Op{b, c, d, e}, false}, {[]api.Op{a, c, d, e}, false}, {[]api.Op{a, b, d, e}, false}, {[]api.Op{a, b, c, e}, false}, {[]api.Op{a, b, c, d}, true},
		{[]api.Op{a, b, c}, true}, {[]api.Op{a, b}, true}, {[]api.Op{b}, false}, {[]api.Op{a, d}, false}, {[]api.Op{a, b, d}, false}, {[]api.Op{b, c, d}, false},
	} {
		checkClosed(t, x.l, x.want)
		check(t, x.l)
	}
	// It is the Dots that are asked for, not whether the operations are valid.
	strange := api.Op{Dot: api.Dot{Rep: 2, Seq: 7}, Kind: 77, Tick: top, Ctx: api.Vec{2, 0, 0}}
	checkClosed(t, []api.Op{a, b, strange}, true)
	// An operation may know itself, and two may know each other.
	checkClosed(t, []api.Op{made(0, 1, api.Add, 4, 1, api.Vec{1})}, true)
	checkClosed(t, []api.Op{made(0, 1, api.Add, 4, 1, api.Vec{0, 1}), made(1, 1, api.Add, 4, 1, api.Vec{1})}, true)
	// Each index of a Ctx is asked for.
	for rep := range 16 {
		var ctx api.Vec
		ctx[rep] = 1
		o := made(uint8(rep+1)%16, 1, api.Add, 4, 1, ctx)
		checkClosed(t, []api.Op{o}, false)
		checkClosed(t, []api.Op{o, made(uint8(rep), 1, api.Add, 4, 1, api.Vec{})}, true)
		ctx[rep] = top
		o.Ctx = ctx
		checkClosed(t, []api.Op{o, made(uint8(rep), 1, api.Add, 4, 1, api.Vec{})}, false)
	}
}

// P7.3 (Closed): a Ctx has no dot behind the last valid one, so that a list of all of a replica's dots is closed whatever the number.
func TestClosedGreatest(t *testing.T) {
	l := make([]api.Op, maxSeq)
	for i := range l {
		l[i].Dot.Seq = uint32(i + 1)
	}
	for _, number := range []uint32{maxSeq, top} {
		l[9].Ctx[0] = number
		if !fold.Closed(l) {
			t.Errorf("not closed with %d", number)
		}
		if fold.Closed(l[:maxSeq-1]) {
			t.Errorf("closed without the last one, with %d", number)
		}
	}
}

// P7.1 to P7.3 held against the chapter's words, on histories, on parts of them in any order, and on lists that are none.
func TestLists(t *testing.T) {
	r := random(5)
	closed, open, live, ended := 0, 0, 0, 0
	for seed := range uint64(60) {
		l := history(1+int(seed%16), 25+int(seed), seed)
		check(t, l)
		for _, order := range orders(l[:len(l)/2]) {
			check(t, order)
			part := order[r.below(len(order)/2):]
			check(t, part)
			if fold.Closed(part) {
				closed++
			} else {
				open++
			}
		}
		for _, x := range fold.Live(l) {
			if x {
				live++
			} else {
				ended++
			}
		}
		wild := slices.Clone(l)
		for i := range wild {
			wild[i].Kind = uint8(r.below(7))
			wild[i].Item = uint16(r.below(3))
			wild[i].Dot.Seq = uint32(r.below(6))
			wild[i].Dot.Rep = uint8(r.below(4))
		}
		check(t, wild)
	}
	if closed < 20 || open < 200 || live < 500 || ended < 500 {
		t.Errorf("only %d closed, %d open, %d live, %d ended", closed, open, live, ended)
	}
}

// P7.1 (Under) on histories: what a vector has, for vectors of all of them.
func TestUnderLists(t *testing.T) {
	for seed := range uint64(10) {
		l := history(4, 40, seed)
		for _, at := range l {
			var want []api.Op
			for _, o := range l {
				if slowHas(at.Ctx, o.Dot) {
					want = append(want, o)
				}
			}
			got := fold.Under(l, at.Ctx)
			if !slices.Equal(got, want) {
				t.Fatalf("Under(%v) = %+v", at.Ctx, got)
			}
			// What an operation of a history knew is closed.
			if !fold.Closed(got) {
				t.Fatalf("not closed: %+v", got)
			}
		}
	}
}

// P7.4 (any order): View and Carts are those of every other order.
func TestAnyOrder(t *testing.T) {
	lines := 0
	for seed := range uint64(40) {
		l := history(2+int(seed%15), 60, seed)
		carts := fold.Carts(l)
		for _, order := range orders(l) {
			if got := fold.Carts(order); !slices.Equal(got, carts) {
				t.Fatalf("Carts = %v, and %v", carts, got)
			}
			for cart := uint16(0); cart < 5; cart++ {
				want := fold.View(l, cart)
				lines += len(want.Lines)
				if got := fold.View(order, cart); !sameView(got, want) {
					t.Fatalf("View(%d) = %+v, and %+v", cart, want, got)
				}
			}
		}
	}
	if lines < 1000 {
		t.Errorf("only %d lines", lines)
	}
}

// P7.5 (other carts): the View is that of the cart's operations alone, and of any others beside them.
func TestOtherCarts(t *testing.T) {
	for seed := range uint64(40) {
		l := history(2+int(seed%15), 60, seed)
		for cart := uint16(0); cart < 4; cart++ {
			want := fold.View(l, cart)
			var own []api.Op
			changed := slices.Clone(l)
			for i, o := range l {
				if o.Cart == cart {
					own = append(own, o)
					continue
				}
				changed[i].Cart, changed[i].Kind, changed[i].Tick = 9, api.Clear, top
				for j := range changed[i].Ctx {
					changed[i].Ctx[j] = top
				}
			}
			for _, other := range [][]api.Op{own, changed} {
				if got := fold.View(other, cart); !sameView(got, want) {
					t.Fatalf("View(%d) = %+v, and %+v", cart, want, got)
				}
			}
		}
	}
}

// R6: changing what was returned or what was passed changes nothing else.
func TestMemory(t *testing.T) {
	l := history(3, 30, 4)
	kept := slices.Clone(l)
	v := api.Vec{9, 9, 9}
	for range 2 {
		view, carts, under, live := fold.View(l, 1), fold.Carts(l), fold.Under(l, v), fold.Live(l)
		if !sameView(view, slowView(kept, 1)) || len(view.Lines) == 0 || !slices.Equal(carts, slowCarts(kept)) || !slices.Equal(live, slowLive(kept)) {
			t.Errorf("%+v, %v, %v", view, carts, live)
		}
		if len(under) < 5 || !slices.Equal(under, slices.DeleteFunc(slices.Clone(kept), func(o api.Op) bool { return !slowHas(v, o.Dot) })) {
			t.Errorf("Under = %+v", under)
		}
		clear(view.Lines)
		clear(carts)
		clear(under)
		clear(live)
		// Appending must not write into anything either.
		_ = append(under, api.Op{})
		if !slices.Equal(l, kept) {
			t.Fatalf("the list was changed to %+v", l)
		}
	}
	view, under := fold.View(l, 1), fold.Under(l, v)
	clear(l)
	if !sameView(view, slowView(kept, 1)) || under[0] != kept[0] {
		t.Error("what was passed is what was returned")
	}
}
