package tree_test

import (
	"math"
	"slices"
	"testing"

	"trug/api"
	"trug/page"
	"trug/tree"
)

func key(cart uint16, rep uint8, seq uint32) page.Key {
	return page.Key{Cart: cart, Dot: api.Dot{Rep: rep, Seq: seq}}
}

// The least key and the greatest one.
var (
	least    = page.Key{}
	greatest = key(math.MaxUint16, math.MaxUint8, math.MaxUint32)
)

// beside is the key that is so many behind k, where there is one.
func beside(k page.Key, by int64) page.Key {
	n := place(k) + uint64(by)
	return key(uint16(n>>40), uint8(n>>32), uint32(n))
}

// item is the item of a number: a greater number has a greater key, with room for others between any two of them and on both sides of all. Neighbours often differ in all fields of the key.
func item(n int) tree.Item {
	return tree.Item{Key: key(uint16(1+n/15), uint8(1+n/5%3*100), uint32(1+n%5*math.MaxUint16)), Loc: page.Loc{Seg: uint32(n%7 + 1), At: uint32(n)}}
}

// Some orders of the numbers below n.
func rising(n int) []int {
	l := make([]int, n)
	for i := range l {
		l[i] = i
	}
	return l
}

func falling(n int) []int {
	l := rising(n)
	slices.Reverse(l)
	return l
}

// mixed is an order without a rule.
func mixed(n int, seed random) []int {
	l := rising(n)
	for i := range l {
		j := i + seed.below(n-i)
		l[i], l[j] = l[j], l[i]
	}
	return l
}

// inward takes the least and the greatest number that is left, by turns.
func inward(n int) []int {
	l := rising(n)
	for i := range l {
		if l[i] = i / 2; i%2 == 1 {
			l[i] = n - 1 - i/2
		}
	}
	return l
}

// outward takes numbers from the middle on.
func outward(n int) []int {
	l := inward(n)
	slices.Reverse(l)
	return l
}

func orders(n int) map[string][]int {
	return map[string][]int{
		"rising": rising(n), "falling": falling(n), "inward": inward(n), "outward": outward(n),
		"mixed": mixed(n, 1), "mixed in another way": mixed(n, 2),
	}
}

// filled is a tree with the items of these numbers.
func filled(t *testing.T, numbers []int) *rig {
	t.Helper()
	r := newRig(t)
	for _, n := range numbers {
		r.put(item(n))
	}
	return r
}

// P14.1, P14.5: the chapter's example, in all these orders.
func TestExample(t *testing.T) {
	for in, puts := range orders(9) {
		for out, drops := range orders(9) {
			r := filled(t, puts)
			root := r.x.Root()
			pages, e := r.x.Pages(root)
			if e != api.OK || len(pages) != 3 || pages[0].Leaf || len(pages[0].Kids) != 2 || !pages[1].Leaf || !pages[2].Leaf {
				t.Fatalf("nine items put, %s: %+v, %d", in, pages, e)
			}
			for _, n := range drops[:8] {
				r.drop(item(n).Key)
			}
			last := item(drops[8])
			pages, e = r.x.Pages(r.x.Root())
			want := page.Page{Leaf: true, Keys: []page.Key{last.Key}, Locs: []page.Loc{last.Loc}}
			if e != api.OK || len(pages) != 1 || !same(pages[0], want) {
				t.Fatalf("nine items put, %s, eight dropped, %s: %+v, %d", in, out, pages, e)
			}
			r.all()
		}
	}
}

// P14.1: a tree that New just created, and the tree beside it, which is another one.
func TestNew(t *testing.T) {
	r, other := newRig(t), newRig(t)
	root := r.x.Root()
	pages, e := r.x.Pages(root)
	if e != api.OK || len(pages) != 1 || !same(pages[0], page.Page{Leaf: true}) {
		t.Errorf("Pages: %+v, %d", pages, e)
	}
	if l, e := r.x.At(root); len(l) != 0 || e != api.OK {
		t.Errorf("At: %v, %d", l, e)
	}
	for _, lo := range []page.Key{least, item(5).Key, greatest} {
		for _, hi := range []page.Key{least, item(5).Key, greatest} {
			r.read(lo, hi)
		}
		r.get(lo)
		r.drop(lo)
	}
	if n := r.x.Trim(); n != 0 || r.x.Root() != root {
		t.Errorf("Trim: %d, and the root is %d", n, r.x.Root())
	}
	r.put(item(5))
	r.all()
	other.all()
}

// R7: a tree that New did not create.
func TestNil(t *testing.T) {
	for name, x := range map[string]*tree.Tree{"nil": nil, "the zero value": {}, "new": new(tree.Tree)} {
		for range 2 {
			if e := x.Put(item(1)); e != api.ErrNil {
				t.Errorf("Put, %s: %d", name, e)
			}
			if e := x.Drop(item(1).Key); e != api.ErrNil {
				t.Errorf("Drop, %s: %d", name, e)
			}
			if loc, e := x.Get(item(1).Key); loc != (page.Loc{}) || e != api.ErrNil {
				t.Errorf("Get, %s: %v, %d", name, loc, e)
			}
			if l := x.Range(least, greatest); len(l) != 0 {
				t.Errorf("Range, %s: %v", name, l)
			}
			if root, n := x.Root(), x.Trim(); root != 0 || n != 0 {
				t.Errorf("Root, Trim, %s: %d, %d", name, root, n)
			}
			for _, root := range []uint32{0, 1, math.MaxUint32} {
				if l, e := x.At(root); len(l) != 0 || e != api.ErrNil {
					t.Errorf("At %d, %s: %v, %d", root, name, l, e)
				}
				if l, e := x.Pages(root); len(l) != 0 || e != api.ErrNil {
					t.Errorf("Pages of %d, %s: %v, %d", root, name, l, e)
				}
			}
		}
	}
}

// P14.2 (Put), P14.6: a key below all, between any two and above all, in trees of many sizes, and then the same key again.
func TestPut(t *testing.T) {
	for n := range 90 {
		r := filled(t, mixed(n, random(n+1)))
		keys := []page.Key{least, greatest}
		for _, x := range r.now().items {
			keys = append(keys, beside(x.Key, -1), beside(x.Key, 1))
		}
		for i, k := range keys {
			if e := r.put(tree.Item{Key: k, Loc: page.Loc{Seg: 9, At: uint32(i)}}); e != api.OK {
				t.Fatalf("Put of %v: %d", k, e)
			}
			if e := r.put(tree.Item{Key: k, Loc: page.Loc{Seg: 8, At: uint32(i)}}); e != api.ErrHave {
				t.Fatalf("Put of %v again: %d", k, e)
			}
		}
		r.all()
	}
}

// P14.2 (Put): one key more in one and the same tree, at each place; so that each leaf there is becomes too full once.
func TestPutEach(t *testing.T) {
	for _, n := range []int{7, 8, 9, 36, 37, 65} {
		for i := range n + 1 {
			r := newRig(t)
			for _, j := range rising(n) {
				r.put(item(2*j + 1))
			}
			r.put(item(2 * i))
			r.all()
		}
	}
}

// P14.2 (Put): a key that is there, with another Loc or the same one, in trees of many sizes.
func TestHave(t *testing.T) {
	for n := range 70 {
		r := filled(t, rising(n))
		for i := range n {
			x := item(i)
			if e := r.put(x); e != api.ErrHave {
				t.Fatalf("Put of %v again: %d", x, e)
			}
			x.Loc.At++
			if e := r.put(x); e != api.ErrHave {
				t.Fatalf("Put of %v with another Loc: %d", x, e)
			}
		}
		r.all()
	}
}

// P14.2 (Put): the 4096th item, one more, and one that is there.
func TestFull(t *testing.T) {
	r := newRig(t)
	for i, n := range mixed(4095, 3) {
		r.put(item(n))
		r.rest(i)
	}
	last := tree.Item{Key: greatest, Loc: page.Loc{Seg: 1}}
	if e := r.put(last); e != api.OK {
		t.Fatalf("Put of the 4096th item: %d", e)
	}
	pages := r.below
	for _, x := range []tree.Item{{}, item(4095), {Key: beside(item(7).Key, 1)}, {Key: beside(greatest, -1)}} {
		if e := r.put(x); e != api.ErrFull {
			t.Fatalf("Put of %v, one more: %d", x, e)
		}
	}
	for _, x := range []tree.Item{item(0), item(2000), last, {Key: last.Key}} {
		if e := r.put(x); e != api.ErrHave {
			t.Fatalf("Put of %v, which is there: %d", x, e)
		}
	}
	if e := r.drop(item(4095).Key); e != api.ErrNone {
		t.Fatalf("Drop of what was not put: %d", e)
	}
	r.all()
	if r.below != pages {
		t.Errorf("%d pages, and %d behind errors", pages, r.below)
	}
	if e := r.drop(item(2000).Key); e != api.OK {
		t.Fatalf("Drop: %d", e)
	}
	if e := r.put(tree.Item{}); e != api.OK {
		t.Fatalf("Put of the 4096th item, once more: %d", e)
	}
	if e := r.put(item(2000)); e != api.ErrFull {
		t.Fatalf("Put of what was dropped, one more: %d", e)
	}
	r.trim()
	if e := r.put(item(2000)); e != api.ErrFull {
		t.Fatalf("Put behind Trim, one more: %d", e)
	}
	r.all()
}

// P14.2 (Drop), P14.5: all items one by one, put and dropped in all these orders, with keys that are not there between.
func TestDrop(t *testing.T) {
	for _, n := range []int{1, 2, 8, 9, 10, 17, 33, 65, 100} {
		for _, puts := range orders(n) {
			for _, drops := range orders(n) {
				r := filled(t, puts)
				for _, i := range drops {
					k := item(i).Key
					for _, other := range []page.Key{least, beside(k, -1), beside(k, 1), greatest} {
						if e := r.drop(other); e != api.ErrNone {
							t.Fatalf("Drop of %v, which is not there: %d", other, e)
						}
					}
					if e := r.drop(k); e != api.OK {
						t.Fatalf("Drop of %v: %d", k, e)
					}
					if e := r.drop(k); e != api.ErrNone {
						t.Fatalf("Drop of %v again: %d", k, e)
					}
				}
				pages, e := r.x.Pages(r.x.Root())
				if e != api.OK || len(pages) != 1 || !same(pages[0], page.Page{Leaf: true}) {
					t.Fatalf("all dropped: %+v, %d", pages, e)
				}
			}
		}
	}
}

// P14.2 (Drop): each key of one and the same tree, the least and the greatest one too.
func TestDropEach(t *testing.T) {
	for _, n := range []int{1, 2, 7, 8, 9, 10, 17, 66} {
		for i := range n {
			r := filled(t, mixed(n, 7))
			r.drop(item(i).Key)
			r.all()
		}
	}
}

// P14.2: what was dropped can be put again, and is then what is put.
func TestAgain(t *testing.T) {
	r := filled(t, rising(50))
	for turn := range uint32(5) {
		for i := range 50 {
			x := item(i)
			r.drop(x.Key)
			x.Loc = page.Loc{Seg: 100 + turn, At: uint32(i)}
			r.put(x)
			r.get(x.Key)
		}
	}
	r.all()
}

// P14.3 (Get), R3: each key, and those around it, in trees of many sizes.
func TestGet(t *testing.T) {
	for n := range 140 {
		r := filled(t, mixed(n, 5))
		r.all()
		for i := range n {
			if loc, e := r.x.Get(item(i).Key); loc != item(i).Loc || e != api.OK {
				t.Fatalf("Get of item %d: %v, %d", i, loc, e)
			}
		}
		for _, k := range []page.Key{least, greatest, beside(item(0).Key, -1), beside(item(n/2).Key, 1)} {
			if loc, e := r.x.Get(k); loc != (page.Loc{}) || e != api.ErrNone {
				t.Fatalf("Get of %v: %v, %d", k, loc, e)
			}
		}
	}
}

// P14.3 (Range): from each key, and those around it, to each such key.
func TestRange(t *testing.T) {
	for _, n := range []int{1, 2, 8, 9, 30, 70} {
		r := filled(t, mixed(n, 4))
		keys := []page.Key{least, greatest}
		for _, x := range r.now().items {
			keys = append(keys, beside(x.Key, -1), x.Key, beside(x.Key, 1))
		}
		for _, lo := range keys {
			for _, hi := range keys {
				r.read(lo, hi)
			}
		}
		r.still()
	}
	r := filled(t, rising(30))
	for _, c := range []struct{ lo, hi, first, number int }{{4, 4, 4, 1}, {4, 9, 4, 6}, {0, 29, 0, 30}, {9, 4, 0, 0}, {29, 99, 29, 1}, {30, 99, 0, 0}} {
		l := r.x.Range(item(c.lo).Key, item(c.hi).Key)
		if len(l) != c.number {
			t.Fatalf("Range of %d to %d: %v", c.lo, c.hi, l)
		}
		for i, x := range l {
			if x != item(c.first+i) {
				t.Errorf("Range of %d to %d: %v at %d", c.lo, c.hi, x, i)
			}
		}
	}
}

// P14.2, P14.3: the least key and the greatest one, and those with a field that is the greatest.
func TestEdges(t *testing.T) {
	var edges []tree.Item
	for i, cart := range []uint16{0, 1, 255, 256, math.MaxUint16} {
		for _, rep := range []uint8{0, 1, 128, math.MaxUint8} {
			for _, seq := range []uint32{0, 1, 1 << 16, math.MaxUint32} {
				edges = append(edges, tree.Item{Key: key(cart, rep, seq), Loc: page.Loc{Seg: math.MaxUint32, At: uint32(i)}})
			}
		}
	}
	for _, numbers := range orders(len(edges)) {
		r := newRig(t)
		for _, n := range numbers {
			r.put(edges[n])
		}
		r.all()
		for _, a := range edges {
			for _, b := range edges {
				r.read(a.Key, b.Key)
			}
		}
		for _, n := range numbers {
			r.drop(edges[n].Key)
		}
		r.all()
	}
}

// P14.4 (At, Pages): all roots that there were, and all other numbers, on the way up and down.
func TestAt(t *testing.T) {
	r := newRig(t)
	for i, n := range mixed(120, 6) {
		r.put(item(n))
		if i%8 == 0 {
			r.all()
		}
	}
	for i, n := range mixed(120, 8) {
		r.drop(item(n).Key)
		if i%8 == 0 {
			r.all()
		}
	}
	r.all()
	if len(r.states) != 241 {
		t.Errorf("%d roots", len(r.states))
	}
	for n := range r.now().root + 1000 {
		if _, seen := r.pages[n]; !seen {
			r.none(n)
		}
	}
}

// P14.4 (Pages): the pages of a tree of three levels, each ahead of those below it, and these in the order of Kids.
func TestPreorder(t *testing.T) {
	r := filled(t, mixed(100, 9))
	pages, e := r.x.Pages(r.x.Root())
	if e != api.OK || pages[0].Leaf || pages[1].Leaf || !pages[2].Leaf {
		t.Fatalf("Pages: %+v, %d", pages, e)
	}
	inner, rest := pages[0], pages[1:]
	for range inner.Kids {
		kids := len(rest[0].Kids)
		for i, leaf := range rest[1 : 1+kids] {
			if !leaf.Leaf || leaf.Keys[0] != rest[0].Keys[i] {
				t.Errorf("leaf %d of %+v: %+v", i, rest[0], leaf)
			}
		}
		rest = rest[1+kids:]
	}
	if len(rest) != 0 {
		t.Errorf("%d pages too many", len(rest))
	}
}

// P14.4 (Trim): how many pages, none again, the items are there, and no root but the one now; also if there are calls behind it.
func TestTrim(t *testing.T) {
	for _, n := range []int{0, 1, 8, 9, 10, 70, 150} {
		r := filled(t, mixed(n, 10))
		if removed := r.trim(); n == 0 && removed != 0 || n > 0 && removed < n {
			t.Errorf("Trim behind %d Puts: %d", n, removed)
		}
		r.all()
		trimmed := r.now()
		r.put(tree.Item{Key: greatest})
		r.same(trimmed)
		r.drop(greatest)
		r.same(trimmed)
		r.all()
		for _, i := range mixed(n, 11) {
			r.drop(item(i).Key)
			if i%5 == 0 {
				r.trim()
			}
		}
		r.trim()
		r.all()
		r.put(item(1))
		r.all()
	}
}

// P14.4 (Trim): nothing but pages that are not below the root is removed by it, and what a call with an error did is nothing.
func TestTrimNone(t *testing.T) {
	r := filled(t, rising(40))
	r.trim()
	r.put(item(7))
	r.drop(item(77).Key)
	r.all()
	if n := r.trim(); n != 0 {
		t.Errorf("Trim behind errors: %d", n)
	}
	r.all()
}
