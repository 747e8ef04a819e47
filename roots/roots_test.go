package roots_test

import (
	"bytes"
	"math"
	"slices"
	"strconv"
	"testing"

	"trug/api"
	"trug/frame"
	"trug/page"
	"trug/roots"
	"trug/tree"
)

func key(cart uint16, rep uint8, seq uint32) page.Key {
	return page.Key{Cart: cart, Dot: api.Dot{Rep: rep, Seq: seq}}
}

// The least key and the greatest one.
var (
	least    = page.Key{}
	greatest = key(math.MaxUint16, math.MaxUint8, math.MaxUint32)
)

// item is number n of a row whose keys rise, differ in all their fields, and leave room between each other.
func item(n int) tree.Item {
	return tree.Item{
		Key: key(uint16(3+n/4), uint8(1+n/2%2), uint32(10+10*(n%2))),
		Loc: page.Loc{Seg: uint32(n % 5), At: uint32(100000 - 7*n)},
	}
}

func items(n int) []tree.Item {
	var l []tree.Item
	for i := range n {
		l = append(l, item(i))
	}
	return l
}

// counts are how many items there can be: each number at which there is a page more, or a level more, and those beside.
var counts = []int{0, 1, 2, 7, 8, 9, 15, 16, 17, 63, 64, 65, 72, 73, 511, 512, 513, 576, 577, 4095, 4096}

// bases are offsets at which the first page can stand; with some of them a field gets longer.
var bases = []int{0, 1, 7, 100, 127, 128, 16300, 16384, 1 << 20, maxBase - 1, maxBase}

// versions are the least one, the greatest one, and some between.
var versions = []uint64{0, 1, 4, 127, 128, math.MaxUint32, math.MaxUint32 + 1, math.MaxUint64 - 1, math.MaxUint64}

// dump is Dump of what it does not refuse.
func dump(t *testing.T, l []tree.Item, version uint64, base int) ([]byte, roots.Slot) {
	t.Helper()
	b, s, e := roots.Dump(l, version, base)
	if e != api.OK {
		t.Fatalf("Dump of %d at %d: %d", len(l), base, e)
	}
	return b, s
}

// P15.1: the chapter's example.
func TestExample(t *testing.T) {
	const base = 50
	b, s := dump(t, items(9), 6, base)
	first := encoded(page.Page{Leaf: true, Keys: keysOf(items(8)), Locs: locsOf(items(8))})
	second := encoded(page.Page{Leaf: true, Keys: []page.Key{item(8).Key}, Locs: []page.Loc{item(8).Loc}})
	at := uint32(base + len(first))
	root := encoded(page.Page{Keys: []page.Key{item(0).Key, item(8).Key}, Kids: []uint32{base, at}})
	if want := concat(first, second, root); !bytes.Equal(b, want) {
		t.Errorf("Dump of nine items: % x, not % x", b, want)
	}
	want := roots.Slot{Version: 6, At: at + uint32(len(second)), End: uint32(base + len(b)), Items: 9}
	if s != want {
		t.Errorf("the slot of nine items: %+v, not %+v", s, want)
	}
}

func keysOf(l []tree.Item) []page.Key {
	var keys []page.Key
	for _, x := range l {
		keys = append(keys, x.Key)
	}
	return keys
}

func locsOf(l []tree.Item) []page.Loc {
	var locs []page.Loc
	for _, x := range l {
		locs = append(locs, x.Loc)
	}
	return locs
}

// P15.1, P15.3: the bytes of a leaf without keys, and those of a slot, written out.
func TestBytes(t *testing.T) {
	b, s := dump(t, nil, 300, 5)
	if want := framed([]byte{1, 0}); !bytes.Equal(b, want) || len(want) != 7 {
		t.Errorf("Dump of no item: % x, not % x", b, want)
	}
	want := roots.Slot{Version: 300, At: 5, End: 12}
	if s != want {
		t.Errorf("the slot of no item: %+v", s)
	}
	if b, want := roots.Encode(s), framed([]byte{0xac, 2, 5, 12, 0}); !bytes.Equal(b, want) {
		t.Errorf("Encode: % x, not % x", b, want)
	}
}

// P15.1: each number of items, at each base, with each version.
func TestDump(t *testing.T) {
	for _, n := range counts {
		l := items(n)
		for i, base := range bases {
			version := versions[i%len(versions)]
			b, s := dump(t, l, version, base)
			if want, slot := dumped(l, version, base); !bytes.Equal(b, want) || s != slot {
				t.Errorf("Dump of %d at %d: %d bytes and %+v, not %d and %+v", n, base, len(b), s, len(want), slot)
			}
		}
	}
	for _, version := range versions {
		if _, s := dump(t, items(9), version, 7); s.Version != version {
			t.Errorf("Dump with the version %d: %d", version, s.Version)
		}
	}
}

// level is one level of an index that was read: its pages, in order, and their offsets.
type level struct {
	pages   []page.Page
	offsets []int
}

// levels are those of the index that b consists of, where a level ends behind the page with the last Kid of the level below; the bytes of each page are held against page.Encode.
func levels(t *testing.T, b []byte, base int) []level {
	t.Helper()
	var all []level
	for offset := 0; offset < len(b); {
		_, size, e := frame.First(b[offset:])
		if e != api.OK {
			t.Fatalf("no frame at %d: %d", base+offset, e)
		}
		p, e := page.Decode(b[offset : offset+size])
		if e != api.OK {
			t.Fatalf("no page at %d: %d", base+offset, e)
		}
		if encoding, _ := page.Encode(p); !bytes.Equal(encoding, b[offset:offset+size]) {
			t.Fatalf("the page at %d is not what page.Encode has", base+offset)
		}
		at := 0
		if !p.Leaf {
			at = slices.IndexFunc(all, func(l level) bool { return slices.Contains(l.offsets, int(p.Kids[0])) }) + 1
		}
		switch {
		case at == len(all):
			all = append(all, level{})
		case at != len(all)-1:
			t.Fatalf("a page of level %d behind one of level %d", at, len(all)-1)
		}
		all[at].pages = append(all[at].pages, p)
		all[at].offsets = append(all[at].offsets, base+offset)
		offset += size
	}
	return all
}

// P15.1: the bytes are those of page.Encode; all pages of a level stand ahead of those of the next one, in runs of 8; each Kid is where its page begins, and each Key its smallest one.
func TestPages(t *testing.T) {
	for _, n := range counts {
		const base = 77
		l := items(n)
		b, s := dump(t, l, 1, base)
		all := levels(t, b, base)
		var keys []page.Key
		var locs []page.Loc
		for _, p := range all[0].pages {
			keys, locs = append(keys, p.Keys...), append(locs, p.Locs...)
		}
		if !slices.Equal(keys, keysOf(l)) || !slices.Equal(locs, locsOf(l)) {
			t.Errorf("%d items: the leaves have others", n)
		}
		for i, one := range all {
			if i > 0 {
				holdAbove(t, one, all[i-1])
			}
			holdRuns(t, one)
		}
		top := all[len(all)-1].offsets
		if len(top) != 1 || s != (roots.Slot{Version: 1, At: uint32(top[0]), End: uint32(base + len(b)), Items: uint32(n)}) {
			t.Errorf("%d items: roots at %v, and %+v", n, top, s)
		}
	}
}

// holdRuns holds that each page of a level has 8 keys, but the last one.
func holdRuns(t *testing.T, one level) {
	t.Helper()
	for i, p := range one.pages {
		if len(p.Keys) != 8 && i < len(one.pages)-1 {
			t.Errorf("page %d of %d has %d keys", i, len(one.pages), len(p.Keys))
		}
	}
}

// holdAbove holds the pages of a level against those of the level below it.
func holdAbove(t *testing.T, one, below level) {
	t.Helper()
	var keys, least []page.Key
	var kids []int
	for _, p := range one.pages {
		keys = append(keys, p.Keys...)
		for _, kid := range p.Kids {
			kids = append(kids, int(kid))
		}
	}
	for _, p := range below.pages {
		least = append(least, p.Keys[0])
	}
	if !slices.Equal(keys, least) || !slices.Equal(kids, below.offsets) {
		t.Errorf("%d pages above %d: keys %v, not %v, or Kids %v, not %v", len(one.pages), len(below.pages), keys, least, kids, below.offsets)
	}
}

// refused holds that Dump of these returns e, and zero values (R3).
func refused(t *testing.T, what string, l []tree.Item, base int, want api.Errno) {
	t.Helper()
	b, s, e := roots.Dump(l, 5, base)
	if len(b) != 0 || s != (roots.Slot{}) || e != want {
		t.Errorf("Dump of %s at %d: %d bytes, %+v, %d, not %d", what, base, len(b), s, e, want)
	}
}

// P15.1: a base that can't be, whatever the items are (R2).
func TestDumpBase(t *testing.T) {
	for _, base := range []int{-1, -8, -maxBase, math.MinInt32, math.MinInt, maxBase + 1, math.MaxInt32, math.MaxUint32, math.MaxUint32 + 1, math.MaxInt} {
		for _, n := range []int{0, 1, 9, 4096, 4097} {
			refused(t, strconv.Itoa(n)+" items", items(n), base, api.ErrArg)
		}
	}
}

// P15.1: keys that are equal or fall, wherever they stand, also where there are too many items (R2).
func TestDumpKeys(t *testing.T) {
	for _, n := range []int{2, 3, 8, 9, 65, 4096, 4097, 5000} {
		for _, at := range []int{1, n / 2, n - 1, min(n-1, 8), min(n-1, 4096)} {
			l := items(n)
			l[at].Key = l[at-1].Key
			refused(t, "an equal key", l, 0, api.ErrArg)
			l = items(n)
			l[at-1], l[at] = l[at], l[at-1]
			refused(t, "a falling key", l, maxBase, api.ErrArg)
		}
	}
	// Each field of a key alone tells which comes first, but only where those ahead of it are equal.
	rising := []page.Key{least, key(0, 0, 1), key(0, 0, math.MaxUint32), key(0, 1, 0), key(0, math.MaxUint8, 9), key(1, 0, 0), key(math.MaxUint16, 0, 9), greatest}
	for i, a := range rising {
		for j, b := range rising {
			l := []tree.Item{{Key: a}, {Key: b}}
			if i < j {
				dump(t, l, 1, 0)
			} else {
				refused(t, "keys in no order", l, 0, api.ErrArg)
			}
		}
	}
}

// P15.1: more than 4096 items.
func TestDumpBig(t *testing.T) {
	for _, n := range []int{4097, 4098, 5000, 8192, 40000} {
		for _, base := range []int{0, 7, maxBase} {
			refused(t, strconv.Itoa(n)+" items", items(n), base, api.ErrBig)
		}
	}
}

// loaded holds that Load returns the items l, and leaves b as it is.
func loaded(t *testing.T, what string, b []byte, s roots.Slot, l []tree.Item) {
	t.Helper()
	given := bytes.Clone(b)
	if got, e := roots.Load(b, s); e != api.OK || !slices.Equal(got, l) {
		t.Errorf("Load of %s: %d items of %d, %d", what, len(got), len(l), e)
	}
	if !bytes.Equal(b, given) {
		t.Errorf("Load of %s changes the bytes", what)
	}
}

// lost holds that Load returns e, and no items (R3).
func lost(t *testing.T, what string, b []byte, s roots.Slot, want api.Errno) {
	t.Helper()
	if l, e := roots.Load(b, s); e != want || len(l) != 0 {
		t.Errorf("Load of %s: %d items, %d, not %d", what, len(l), e, want)
	}
}

// P15.2, P15.4: whatever bytes stand ahead and behind: none, any, frames and pages, and another index.
func TestLoad(t *testing.T) {
	r := random(1)
	other, _ := dumped(items(20), 1, 0)
	around := [][]byte{nil, {0}, r.bytes(50), bytes.Repeat([]byte{0xff}, 300), framed(nil), encoded(page.Page{Leaf: true}), encoded(leaf(1, 9)), other}
	for _, n := range counts {
		l := items(n)
		for i, ahead := range around {
			for j, behind := range around {
				b, s := dump(t, l, versions[(i+j)%len(versions)], len(ahead))
				loaded(t, strconv.Itoa(n)+" items", concat(ahead, b, behind), s, l)
			}
		}
	}
}

// P15.4: keys and Locs with the least and the greatest numbers, and items that are far apart.
func TestLoadNumbers(t *testing.T) {
	const top = math.MaxUint32
	ends := []tree.Item{{Key: least}, {Key: greatest, Loc: page.Loc{Seg: top, At: top}}}
	var wide []tree.Item
	for i := range maxOps {
		wide = append(wide, tree.Item{Key: key(math.MaxUint16, math.MaxUint8, uint32(top-maxOps+1+i)), Loc: page.Loc{Seg: top, At: uint32(top - i)}})
	}
	for _, l := range [][]tree.Item{ends[:1], ends[1:], ends, wide[:8], wide[:9], wide} {
		for _, base := range []int{0, 300} {
			b, s := dump(t, l, top, base)
			loaded(t, "numbers", concat(make([]byte, base), b, []byte{1}), s, l)
		}
	}
}

// P15.2: too few bytes, whatever else is wrong (R2).
func TestLoadShort(t *testing.T) {
	for _, n := range []int{0, 1, 8, 9, 65} {
		b, s := dumped(items(n), 4, 10)
		b = concat(make([]byte, 10), b)
		for end := range b {
			lost(t, "too few bytes", b[:end], s, api.ErrShort)
		}
		loaded(t, "just enough bytes", b, s, items(n))
		for _, end := range []uint32{uint32(len(b)) + 1, math.MaxInt32, 1 << 31, math.MaxUint32} {
			for _, at := range []uint32{s.At, 0, end, math.MaxUint32} {
				lost(t, "an End behind the bytes", b, roots.Slot{Version: 4, At: at, End: end, Items: s.Items}, api.ErrShort)
				lost(t, "an End behind the bytes", b, roots.Slot{At: at, End: end}, api.ErrShort)
				lost(t, "no bytes", nil, roots.Slot{At: at, End: end}, api.ErrShort)
			}
		}
	}
}

// P15.2: a slot with a wrong At, End or Items; the Version may be any, as no page has it.
func TestLoadSlot(t *testing.T) {
	const base = 20
	for _, n := range []int{0, 1, 8, 9, 65} {
		l := items(n)
		b, s := dumped(l, 4, base)
		b = concat(make([]byte, base), b, make([]byte, 30))
		for _, version := range versions {
			loaded(t, "another version", b, roots.Slot{Version: version, At: s.At, End: s.End, Items: s.Items}, l)
		}
		for x := range uint32(len(b) + 50) {
			held(t, b, s, x)
		}
		for _, x := range []uint32{1 << 16, 1 << 30, math.MaxInt32, 1 << 31, math.MaxUint32 - 1, math.MaxUint32} {
			held(t, b, s, x)
		}
		lost(t, "the slot of nothing", b, roots.Slot{}, api.ErrPage)
		lost(t, "no bytes", nil, roots.Slot{}, api.ErrPage)
	}
}

// held holds that Load does not take the slot s with x in place of its At, its End or its Items, where that is another number.
func held(t *testing.T, b []byte, s roots.Slot, x uint32) {
	t.Helper()
	at, end, count := s, s, s
	at.At, end.End, count.Items = x, x, x
	if at != s {
		lost(t, "a wrong At", b, at, api.ErrPage)
	}
	if end != s && uint64(x) <= uint64(len(b)) {
		lost(t, "a wrong End", b, end, api.ErrPage)
	}
	if count != s {
		lost(t, "a wrong Items", b, count, api.ErrPage)
	}
}

// P15.2: each byte of an index changed in each of its bits; bytes outside of it don't matter (P15.4).
func TestLoadTurned(t *testing.T) {
	const base = 9
	for _, n := range []int{0, 1, 8, 9, 65} {
		b, s := dumped(items(n), 4, base)
		b = concat(make([]byte, base), b, make([]byte, 9))
		for i := range b {
			for bit := range 8 {
				b[i] ^= 1 << bit
				if i < base || i >= int(s.End) {
					loaded(t, "a changed byte outside", b, s, items(n))
				} else {
					lost(t, "a changed byte", b, s, api.ErrPage)
				}
				b[i] ^= 1 << bit
			}
		}
	}
}

// leaf is one of the items from number a to number b, the latter not included.
func leaf(a, b int) page.Page {
	l := items(b)[a:]
	return page.Page{Leaf: true, Keys: keysOf(l), Locs: locsOf(l)}
}

// file is an index that is written page by page, right or not, and the offset of its last page.
type file struct {
	b    []byte
	last uint32
}

// add appends pages, and returns their offsets.
func (f *file) add(pages ...page.Page) []uint32 {
	var offsets []uint32
	for _, p := range pages {
		f.last = uint32(len(f.b))
		offsets = append(offsets, f.last)
		f.b = append(f.b, encoded(p)...)
	}
	return offsets
}

// inner is a page with the keys of the items of these numbers, and with Kids.
func inner(kids []uint32, numbers ...int) page.Page {
	p := page.Page{Kids: kids}
	for _, n := range numbers {
		p.Keys = append(p.Keys, item(n).Key)
	}
	return p
}

// slot is that of the file, as if its last page were the root.
func (f *file) slot(n int) roots.Slot {
	return roots.Slot{Version: 4, At: f.last, End: uint32(len(f.b)), Items: uint32(n)}
}

// P15.2: indexes of pages that are right one by one, and hang together, but are not those of Dump.
func TestLoadShapes(t *testing.T) {
	for name, x := range shapes() {
		s := x.file.slot(x.n)
		want, e := slowLoad(x.file.b, s)
		if name == "as it is" {
			if e != api.OK {
				t.Fatalf("%s: %d", name, e)
			}
			loaded(t, name, x.file.b, s, want)
			continue
		}
		if e != api.ErrPage {
			t.Fatalf("%s: %d", name, e)
		}
		lost(t, name, x.file.b, s, api.ErrPage)
		// Nor as many items as there are at most, nor none.
		for _, n := range []uint32{0, maxOps, maxOps + 1, math.MaxUint32} {
			s.Items = n
			lost(t, name, x.file.b, s, api.ErrPage)
		}
	}
}

// shape is a file, and how many items it seems to have.
type shape struct {
	file file
	n    int
}

// shapes are files with other pages than those that Dump has, and one that is as it is.
func shapes() map[string]shape {
	m := map[string]shape{}
	made := func(name string, n int, build func(f *file)) {
		f := file{}
		build(&f)
		m[name] = shape{f, n}
	}
	runs := func(name string, n int, cuts ...int) {
		made(name, n, func(f *file) {
			f.rootOf(append(cuts, n))
		})
	}
	runs("as it is", 20, 0, 8, 16)
	runs("runs of 1 and 8", 9, 0, 1)
	runs("runs of 5 and 4", 9, 0, 5)
	runs("runs of 7 and 2", 9, 0, 7)
	runs("three runs of 3", 9, 0, 3, 6)
	runs("two runs of 4", 8, 0, 4)
	runs("a run more than needed", 17, 0, 8, 12)
	runs("a root above one leaf", 8, 0)
	runs("a root above a leaf of one item", 1, 0)
	runs("a run of 9", 9, 0)
	runs("runs of 9 and 1", 10, 0, 9)
	made("an empty leaf between", 9, func(f *file) {
		kids := f.add(leaf(0, 8), page.Page{Leaf: true}, leaf(8, 9))
		f.add(inner([]uint32{kids[0], kids[2]}, 0, 8))
	})
	made("a root above an empty leaf", 0, func(f *file) {
		f.add(inner(f.add(page.Page{Leaf: true}), 0))
	})
	keys(made)
	places(made)
	loops(made)
	deep(made)
	return m
}

// rootOf writes leaves of the items between the cuts, and a root above them.
func (f *file) rootOf(cuts []int) {
	var kids []uint32
	for i := range len(cuts) - 1 {
		kids = append(kids, f.add(leaf(cuts[i], cuts[i+1]))...)
	}
	f.add(inner(kids, cuts[:len(cuts)-1]...))
}

// maker takes the name of a shape, the number of its items, and how it is built.
type maker func(name string, n int, build func(f *file))

// keys are shapes whose keys are wrong.
func keys(made maker) {
	root := func(name string, numbers ...int) {
		made(name, 20, func(f *file) {
			f.add(inner(f.add(leaf(0, 8), leaf(8, 16), leaf(16, 20)), numbers...))
		})
	}
	root("the second key of a leaf", 1, 8, 16)
	root("a key between the leaves", 0, 7, 16)
	root("the greatest key of a leaf", 0, 8, 19)
	root("a key behind those of a leaf", 0, 8, 20)
	root("a key for two leaves", 0, 8, 8)
	root("keys that fall", 0, 16, 8)
	root("a key more than Kids", 0, 8, 16, 17)
	root("a key less than Kids", 0, 8)
	made("an equal key in two leaves", 16, func(f *file) {
		f.add(inner(f.add(leaf(0, 8), leaf(7, 15)), 0, 7))
	})
	made("leaves in the wrong order", 16, func(f *file) {
		f.add(inner(f.add(leaf(8, 16), leaf(0, 8)), 8, 0))
	})
	made("a leaf twice", 16, func(f *file) {
		f.add(inner(f.add(leaf(0, 8), leaf(0, 8)), 0, 0))
	})
	made("a leaf whose keys fall", 2, func(f *file) {
		p := leaf(0, 2)
		slices.Reverse(p.Keys)
		f.add(p)
	})
}

// places are shapes whose pages stand in other places.
func places(made maker) {
	root := func(name string, turn func(kids []uint32, f *file) []uint32) {
		made(name, 20, func(f *file) {
			kids := f.add(leaf(0, 8), leaf(8, 16), leaf(16, 20))
			kids = turn(kids, f)
			f.add(inner(kids, 0, 8, 16))
		})
	}
	same := func(kids []uint32) []uint32 { return kids }
	root("a Kid a byte ahead", func(k []uint32, f *file) []uint32 { return []uint32{k[0], k[1] - 1, k[2]} })
	root("a Kid a byte behind", func(k []uint32, f *file) []uint32 { return []uint32{k[0], k[1], k[2] + 1} })
	root("Kids in another order", func(k []uint32, f *file) []uint32 { return []uint32{k[0], k[2], k[1]} })
	root("the first Kid behind", func(k []uint32, f *file) []uint32 { return []uint32{k[1], k[0], k[2]} })
	root("a Kid twice", func(k []uint32, f *file) []uint32 { return []uint32{k[0], k[1], k[1]} })
	root("a first Kid within a page", func(k []uint32, f *file) []uint32 { return []uint32{1, k[1], k[2]} })
	root("a Kid behind the end", func(k []uint32, f *file) []uint32 { return []uint32{k[0], k[1], math.MaxUint32} })
	root("a leaf more", func(k []uint32, f *file) []uint32 { f.add(leaf(20, 22)); return same(k) })
	root("an empty leaf more", func(k []uint32, f *file) []uint32 { f.add(page.Page{Leaf: true}); return same(k) })
	root("the last leaf once more", func(k []uint32, f *file) []uint32 { f.add(leaf(16, 20)); return same(k) })
	root("the root once more", func(k []uint32, f *file) []uint32 { f.add(inner(k, 0, 8, 16)); return same(k) })
	root("a page more above some", func(k []uint32, f *file) []uint32 { f.add(inner(k[:2], 0, 8)); return same(k) })
	root("a frame more", func(k []uint32, f *file) []uint32 { f.b = append(f.b, framed(nil)...); return same(k) })
	root("a byte more", func(k []uint32, f *file) []uint32 { f.b = append(f.b, 0); return same(k) })
	made("a byte behind the root", 20, func(f *file) {
		f.rootOf([]int{0, 8, 16, 20})
		f.b = append(f.b, 7)
	})
	made("a page behind the root", 20, func(f *file) {
		f.rootOf([]int{0, 8, 16, 20})
		f.b = append(f.b, encoded(leaf(20, 21))...)
	})
	made("the root ahead", 9, func(f *file) {
		root := len(encoded(inner([]uint32{0, 0}, 0, 8)))
		second := root + len(encoded(leaf(0, 8)))
		f.add(inner([]uint32{uint32(root), uint32(second)}, 0, 8), leaf(0, 8), leaf(8, 9))
		f.last = 0
	})
	made("two leaves without a root", 16, func(f *file) { f.add(leaf(0, 8), leaf(8, 16)) })
	made("two leaves, the first of them the root", 16, func(f *file) { f.add(leaf(0, 8), leaf(8, 16)); f.last = 0 })
}

// loops are shapes whose Kids do not lead down to a leaf.
func loops(made maker) {
	made("a root below itself", 1, func(f *file) { f.add(inner([]uint32{0}, 0)) })
	made("a root below itself, behind a leaf", 9, func(f *file) {
		at := uint32(len(encoded(leaf(0, 8))))
		f.add(leaf(0, 8), inner([]uint32{at, 0}, 0, 8))
	})
	made("two pages below each other", 1, func(f *file) {
		at := uint32(len(encoded(inner([]uint32{0}, 0))))
		f.add(inner([]uint32{at}, 0), inner([]uint32{0}, 0))
	})
	made("a Kid behind its page", 1, func(f *file) {
		at := uint32(len(encoded(inner([]uint32{0}, 0))))
		f.add(inner([]uint32{at}, 0), leaf(0, 1))
		f.last = 0
	})
	made("a Kid behind all", 1, func(f *file) { f.add(leaf(0, 1), inner([]uint32{math.MaxUint32}, 0)) })
	made("a Kid at the end", 1, func(f *file) {
		f.add(leaf(0, 1))
		end := len(f.b) + len(encoded(inner([]uint32{0}, 0)))
		f.add(inner([]uint32{uint32(end)}, 0))
	})
	made("a chain of pages", 1, func(f *file) {
		kids := f.add(leaf(0, 1))
		for range 300 {
			kids = f.add(inner(kids, 0))
		}
	})
}

// deep are shapes of more than two levels.
func deep(made maker) {
	leaves := func(f *file, n int) (kids []uint32, firsts []int) {
		for i := 0; i < n; i += 8 {
			kids, firsts = append(kids, f.add(leaf(i, min(i+8, n)))...), append(firsts, i)
		}
		return kids, firsts
	}
	made("other runs above", 72, func(f *file) {
		kids, firsts := leaves(f, 72)
		a := f.add(inner(kids[:5], firsts[:5]...), inner(kids[5:], firsts[5:]...))
		f.add(inner(a, 0, 40))
	})
	made("a level that is not needed", 64, func(f *file) {
		kids, firsts := leaves(f, 64)
		a := f.add(inner(kids[:4], firsts[:4]...), inner(kids[4:], firsts[4:]...))
		f.add(inner(a, 0, 32))
	})
	made("a root with 9 Kids", 72, func(f *file) {
		kids, firsts := leaves(f, 72)
		f.add(inner(kids, firsts...))
	})
	made("a leaf beside a page above others", 65, func(f *file) {
		kids, firsts := leaves(f, 65)
		a := f.add(inner(kids[:8], firsts[:8]...))
		f.add(inner([]uint32{a[0], kids[8]}, 0, 64))
	})
	made("a page above ahead of the last leaf", 65, func(f *file) {
		kids, firsts := leaves(f, 64)
		a := f.add(inner(kids, firsts...))
		last := f.add(leaf(64, 65))
		b := f.add(inner(last, 64))
		f.add(inner([]uint32{a[0], b[0]}, 0, 64))
	})
	made("the key above all that is not the smallest", 65, func(f *file) {
		kids, firsts := leaves(f, 65)
		a := f.add(inner(kids[:8], firsts[:8]...), inner(kids[8:], 64))
		f.add(inner(a, 8, 64))
	})
	made("4097 items", 4097, func(f *file) {
		pages, _ := dumped(items(4097), 4, 0)
		f.b = pages
		_, s := dumped(items(4097), 4, 0)
		f.last = s.At
	})
}
