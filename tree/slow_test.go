package tree_test

import (
	"maps"
	"math"
	"slices"
	"sort"
	"testing"

	"trug/api"
	"trug/page"
	"trug/tree"
)

// The functions below read this chapter, and what it needs of the one on pages, word by word, so that they owe nothing to the packages.

// place is a key as one number, so that a greater number is a greater key.
func place(k page.Key) uint64 {
	return uint64(k.Cart)<<40 + uint64(k.Dot.Rep)<<32 + uint64(k.Dot.Seq)
}

// state is a root, and the items that there were when it was the root, in order.
type state struct {
	root  uint32
	items []tree.Item
}

// rig is a tree, and beside it all that the chapter says of it by the calls that were made; each call on it is held against that.
type rig struct {
	*testing.T
	x *tree.Tree
	// states are those of all roots since New or the last Trim; that of the root now is the last one.
	states []state
	// pages are all pages below these roots, as they were when they were first seen, by their numbers.
	pages map[uint32]page.Page
	// below is how many of them are below the root now.
	below int
	// gone are the numbers of those pages that were trimmed: if one were given again, a root that is gone could seem to be there.
	gone map[uint32]bool
}

func newRig(t *testing.T) *rig {
	t.Helper()
	r := &rig{T: t, x: tree.New(), pages: map[uint32]page.Page{}, gone: map[uint32]bool{}}
	if r.x == nil {
		t.Fatal("New: nil")
	}
	r.step(nil)
	return r
}

// now is the state of the root now.
func (r *rig) now() state { return r.states[len(r.states)-1] }

// index is how many items have a key below k, and whether the next one has k.
func (r *rig) index(k page.Key) (int, bool) {
	items := r.now().items
	i := sort.Search(len(items), func(i int) bool { return place(items[i].Key) >= place(k) })
	return i, i < len(items) && items[i].Key == k
}

// between are the items with keys from lo to hi, both included.
func (r *rig) between(lo, hi page.Key) []tree.Item {
	var l []tree.Item
	for _, x := range r.now().items {
		if place(x.Key) >= place(lo) && place(x.Key) <= place(hi) {
			l = append(l, x)
		}
	}
	return l
}

// put calls Put, and tells its answer.
func (r *rig) put(x tree.Item) api.Errno {
	r.Helper()
	items := r.now().items
	i, have := r.index(x.Key)
	want := api.OK
	switch {
	case have:
		want = api.ErrHave
	case len(items) >= 4096:
		want = api.ErrFull
	}
	e := r.x.Put(x)
	if e != want {
		r.Fatalf("Put of %v: %d, not %d", x, e, want)
	}
	if e == api.OK {
		r.step(slices.Insert(slices.Clone(items), i, x))
	}
	r.still()
	return e
}

// drop calls Drop, and tells its answer.
func (r *rig) drop(k page.Key) api.Errno {
	r.Helper()
	i, have := r.index(k)
	want := api.OK
	if !have {
		want = api.ErrNone
	}
	e := r.x.Drop(k)
	if e != want {
		r.Fatalf("Drop of %v: %d, not %d", k, e, want)
	}
	if e == api.OK {
		r.step(slices.Delete(slices.Clone(r.now().items), i, i+1))
	}
	r.still()
	return e
}

// get calls Get.
func (r *rig) get(k page.Key) {
	r.Helper()
	var want page.Loc
	i, have := r.index(k)
	err := api.ErrNone
	if have {
		want, err = r.now().items[i].Loc, api.OK
	}
	if loc, e := r.x.Get(k); loc != want || e != err {
		r.Fatalf("Get of %v: %v, %d, not %v, %d", k, loc, e, want, err)
	}
}

// read calls Range.
func (r *rig) read(lo, hi page.Key) {
	r.Helper()
	if l, want := r.x.Range(lo, hi), r.between(lo, hi); !slices.Equal(l, want) {
		r.Fatalf("Range of %v to %v: %v, not %v", lo, hi, l, want)
	}
}

// trim calls Trim twice, and tells how many pages the first call removed.
func (r *rig) trim() int {
	r.Helper()
	before, last := r.states, r.now()
	want := len(r.pages) - r.below
	n := r.x.Trim()
	if n != want {
		r.Fatalf("Trim: %d of %d pages, not %d", n, len(r.pages), want)
	}
	r.still()
	for _, s := range before[:len(before)-1] {
		r.none(s.root)
	}
	r.same(last)
	below := r.look(last)
	for number := range r.pages {
		if _, kept := below[number]; !kept {
			r.gone[number] = true
		}
	}
	r.states, r.pages = []state{last}, below
	if n := r.x.Trim(); n != 0 {
		r.Fatalf("Trim behind a Trim: %d", n)
	}
	return n
}

// step holds a root that a call created against the items that there are behind the call.
func (r *rig) step(items []tree.Item) {
	r.Helper()
	root := r.x.Root()
	if _, seen := r.pages[root]; seen || root == 0 {
		r.Fatalf("the new root is %d, which is 0 or that of another page", root)
	}
	r.states = append(r.states, state{root: root, items: items})
	below := r.look(r.now())
	maps.Copy(r.pages, below)
	r.below = len(below)
}

// still holds the root against the one that is known.
func (r *rig) still() {
	r.Helper()
	if root := r.x.Root(); root != r.now().root {
		r.Fatalf("the root is %d, not %d", root, r.now().root)
	}
}

// same holds what At answers of a root against its items.
func (r *rig) same(s state) {
	r.Helper()
	if l, e := r.x.At(s.root); e != api.OK || !slices.Equal(l, s.items) {
		r.Fatalf("At of %d: %v, %d, not %v", s.root, l, e, s.items)
	}
}

// none holds At and Pages of a number that no root has or had.
func (r *rig) none(number uint32) {
	r.Helper()
	if l, e := r.x.At(number); len(l) != 0 || e != api.ErrNone {
		r.Fatalf("At of %d: %v, %d", number, l, e)
	}
	if l, e := r.x.Pages(number); len(l) != 0 || e != api.ErrNone {
		r.Fatalf("Pages of %d: %v, %d", number, l, e)
	}
}

// all holds each call that changes nothing against what is known: for each key, and for those beside it, and for each page.
func (r *rig) all() {
	r.Helper()
	roots := map[uint32]bool{}
	for _, s := range r.states {
		roots[s.root] = true
		r.same(s)
		r.look(s)
	}
	for number := range r.pages {
		if !roots[number] {
			r.none(number)
		}
	}
	for _, number := range []uint32{0, r.free(), math.MaxUint32} {
		r.none(number)
	}
	for _, x := range r.now().items {
		for _, k := range []page.Key{x.Key, beside(x.Key, -1), beside(x.Key, 1)} {
			r.get(k)
		}
	}
	r.get(least)
	r.get(greatest)
	r.read(least, greatest)
	r.read(greatest, least)
	r.still()
}

// free is a number that no page has.
func (r *rig) free() uint32 {
	for n := r.now().root; ; n++ {
		if _, seen := r.pages[n]; !seen {
			return n
		}
	}
}

// look reads the pages below a root, which it holds against the chapter, and against what they were.
func (r *rig) look(s state) map[uint32]page.Page {
	r.Helper()
	w := walk{rig: r, pages: make(map[uint32]page.Page, r.below+8), items: make([]tree.Item, 0, len(s.items)+1)}
	w.start(s)
	for number, p := range w.pages {
		if r.gone[number] {
			r.Fatalf("page %d is there, which was trimmed", number)
		}
		if old, seen := r.pages[number]; seen && !same(p, old) {
			r.Fatalf("page %d has changed from %+v to %+v", number, old, p)
		}
	}
	return w.pages
}

// walk reads what Pages returns.
type walk struct {
	*rig
	// left are those pages that were not yet read.
	left  []page.Page
	pages map[uint32]page.Page
	items []tree.Item
	// depth is that of the leaves.
	depth int
}

// start reads all pages below a root.
func (w *walk) start(s state) {
	w.Helper()
	l, e := w.x.Pages(s.root)
	if e != api.OK {
		w.Fatalf("Pages of %d: %d", s.root, e)
	}
	w.left = l
	w.next(s.root, 1)
	if len(w.left) > 0 {
		w.Fatalf("Pages of %d: %d more than there are Kids", s.root, len(w.left))
	}
	if !slices.Equal(w.items, s.items) {
		w.Fatalf("Pages of %d: the items %v, not %v", s.root, w.items, s.items)
	}
}

// next reads the page of a number and all those below it, and holds them against P14.5.
func (w *walk) next(number uint32, depth int) {
	if len(w.left) == 0 {
		w.Fatalf("Pages: none of number %d", number)
	}
	p := w.left[0]
	w.left = w.left[1:]
	if _, seen := w.pages[number]; seen {
		w.Fatalf("page %d is twice below a root", number)
	}
	w.pages[number] = p
	switch {
	case !valid(p):
		w.Fatalf("page %d is not valid: %+v", number, p)
	case depth > 1 && len(p.Keys) == 0:
		w.Fatalf("page %d, not the root, has no key", number)
	case depth == 1 && !p.Leaf && len(p.Kids) < 2:
		w.Fatalf("the root %d has less than two Kids: %+v", number, p)
	case p.Leaf && w.depth != 0 && w.depth != depth:
		w.Fatalf("leaf %d has depth %d, another one %d", number, depth, w.depth)
	case p.Leaf:
		w.depth = depth
	}
	for i, loc := range p.Locs {
		w.items = append(w.items, tree.Item{Key: p.Keys[i], Loc: loc})
	}
	for i, kid := range p.Kids {
		n := len(w.items)
		w.next(kid, depth+1)
		if len(w.items) == n || w.items[n].Key != p.Keys[i] {
			w.Fatalf("page %d: key %d of %+v is not the smallest one of its Kid", number, i, p)
		}
	}
}

// valid tells by the words of the chapter on pages whether p is valid.
func valid(p page.Page) bool {
	keys, locs, kids := len(p.Keys), len(p.Locs), len(p.Kids)
	for i, k := range p.Keys {
		if i > 0 && place(p.Keys[i-1]) >= place(k) {
			return false
		}
	}
	leaf := p.Leaf && locs == keys && kids == 0
	inner := !p.Leaf && kids == keys && keys >= 1 && locs == 0
	return keys <= 8 && (leaf || inner)
}

// same tells whether two pages are the same (R8).
func same(a, b page.Page) bool {
	return a.Leaf == b.Leaf && slices.Equal(a.Keys, b.Keys) && slices.Equal(a.Locs, b.Locs) && slices.Equal(a.Kids, b.Kids)
}
