package page_test

import (
	"bytes"
	"math"
	"slices"
	"strconv"
	"testing"

	"trug/api"
	"trug/page"
)

func key(cart uint16, rep uint8, seq uint32) page.Key {
	return page.Key{Cart: cart, Dot: api.Dot{Rep: rep, Seq: seq}}
}

// The least key and the greatest one.
var (
	least    = page.Key{}
	greatest = key(math.MaxUint16, math.MaxUint8, math.MaxUint32)
)

// row are n keys in strictly increasing order; they differ in all their fields, and leave room between each other.
func row(n int) []page.Key {
	var l []page.Key
	for i := range n {
		l = append(l, key(uint16(3+i/4), uint8(1+i/2%2), uint32(10+10*(i%2))))
	}
	return l
}

// leafOf is a leaf with these keys, and with a Loc for each of them.
func leafOf(keys ...page.Key) page.Page {
	p := page.Page{Leaf: true, Keys: slices.Clone(keys)}
	for i := range keys {
		p.Locs = append(p.Locs, page.Loc{Seg: uint32(i), At: uint32(300 - i)})
	}
	return p
}

// innerOf is an inner page with these keys, and with a Kid for each of them.
func innerOf(keys ...page.Key) page.Page {
	p := page.Page{Keys: slices.Clone(keys)}
	for i := range keys {
		p.Kids = append(p.Kids, uint32(200-i))
	}
	return p
}

// both are a leaf and an inner page with these keys.
func both(keys ...page.Key) []page.Page {
	return []page.Page{leafOf(keys...), innerOf(keys...)}
}

// valid are pages of each kind, with all numbers of keys and with the least and the greatest numbers.
func valid() map[string]page.Page {
	const top = math.MaxUint32
	m := map[string]page.Page{
		"a leaf of no key":             {Leaf: true},
		"a leaf of no key, not nil":    {Leaf: true, Keys: []page.Key{}, Locs: []page.Loc{}, Kids: []uint32{}},
		"an inner page, Locs not nil":  {Keys: row(1), Locs: []page.Loc{}, Kids: []uint32{1}},
		"a leaf of the least numbers":  {Leaf: true, Keys: []page.Key{least}, Locs: []page.Loc{{}}},
		"a leaf of the greatest":       {Leaf: true, Keys: []page.Key{greatest}, Locs: []page.Loc{{Seg: top, At: top}}},
		"an inner page of the least":   {Keys: []page.Key{least}, Kids: []uint32{0}},
		"an inner page of the largest": {Keys: []page.Key{greatest}, Kids: []uint32{top}},
		"a leaf with a greatest Seg":   {Leaf: true, Keys: row(2), Locs: []page.Loc{{Seg: top}, {At: 1}}},
		"a leaf with a greatest At":    {Leaf: true, Keys: row(2), Locs: []page.Loc{{At: top}, {Seg: 1}}},
		"an inner page, Kids alike":    {Keys: row(3), Kids: []uint32{5, 5, 5}},
		"a leaf, Locs alike":           {Leaf: true, Keys: row(3), Locs: make([]page.Loc, 3)},
	}
	for i, k := range []page.Key{key(math.MaxUint16, 0, 0), key(0, math.MaxUint8, 0), key(0, 0, math.MaxUint32), key(127, 128, 16384)} {
		m["a leaf of an edge"+tag(i)] = leafOf(least, k)
		m["an inner page of an edge"+tag(i)] = innerOf(k, greatest)
	}
	// The longest encoding of all.
	last := page.Page{Leaf: true}
	for i := range uint8(8) {
		last.Keys = append(last.Keys, key(math.MaxUint16, 248+i, top))
		last.Locs = append(last.Locs, page.Loc{Seg: top, At: top})
	}
	m["a leaf of 8 keys, the greatest"] = last
	for n := 1; n <= 8; n++ {
		m["a leaf of keys"+tag(n)] = leafOf(row(n)...)
		m["an inner page of keys"+tag(n)] = innerOf(row(n)...)
	}
	return m
}

// tag tells the names of pages with unlike numbers apart.
func tag(n int) string { return " (" + strconv.Itoa(n) + ")" }

// faults are pages that are not valid, each for one reason alone, as far as there are such.
func faults() map[string]page.Page {
	with := func(p page.Page, turn func(p *page.Page)) page.Page {
		turn(&p)
		return p
	}
	loc := func(p *page.Page) { p.Locs = append(p.Locs, page.Loc{Seg: 1, At: 2}) }
	kid := func(p *page.Page) { p.Kids = append(p.Kids, 7) }
	m := map[string]page.Page{
		"an inner page of no key":             {},
		"an inner page of no key, not nil":    {Keys: []page.Key{}, Kids: []uint32{}},
		"an inner page of no key, with a Kid": {Kids: []uint32{1}},
		"an inner page of no key, with a Loc": {Locs: []page.Loc{{}}},
		"a leaf of no key, with a Loc":        {Leaf: true, Locs: []page.Loc{{}}},
		"a leaf of no key, with a Kid":        {Leaf: true, Kids: []uint32{1}},
		"a leaf with Kids instead of Locs":    {Leaf: true, Keys: row(2), Kids: []uint32{1, 2}},
		"an inner page with Locs, no Kids":    {Keys: row(2), Locs: make([]page.Loc, 2)},
	}
	for _, n := range []int{9, 10, 16, 300} {
		var l []page.Key
		for i := range n {
			l = append(l, key(1, 1, uint32(i)))
		}
		m["a leaf of too many keys"+tag(n)] = leafOf(l...)
		m["an inner page of too many keys"+tag(n)] = innerOf(l...)
	}
	for _, n := range []int{1, 2, 7, 8} {
		leaf, inner := leafOf(row(n)...), innerOf(row(n)...)
		m["a leaf with a Loc more"+tag(n)] = with(leaf, loc)
		m["a leaf with a Loc less"+tag(n)] = with(leaf, func(p *page.Page) { p.Locs = p.Locs[1:] })
		m["a leaf with a Kid"+tag(n)] = with(leaf, kid)
		m["a leaf with all Kids"+tag(n)] = with(leaf, func(p *page.Page) { p.Kids = inner.Kids })
		m["a leaf with no Loc"+tag(n)] = with(leaf, func(p *page.Page) { p.Locs = nil })
		m["an inner page with a Kid more"+tag(n)] = with(inner, kid)
		m["an inner page with a Kid less"+tag(n)] = with(inner, func(p *page.Page) { p.Kids = p.Kids[1:] })
		m["an inner page with a Loc"+tag(n)] = with(inner, loc)
		m["an inner page with all Locs"+tag(n)] = with(inner, func(p *page.Page) { p.Locs = leaf.Locs })
		m["an inner page with no Kid"+tag(n)] = with(inner, func(p *page.Page) { p.Kids = nil })
	}
	for name, keys := range disorder() {
		m["a leaf of "+name] = leafOf(keys...)
		m["an inner page of "+name] = innerOf(keys...)
	}
	return m
}

// disorder are keys that are not in strictly increasing order.
func disorder() map[string][]page.Key {
	m := map[string][]page.Key{
		"a lower Cart behind": {key(2, 1, 1), key(1, 2, 2)},
		"a lower Rep behind":  {key(1, 2, 1), key(1, 1, 2)},
		"a lower Seq behind":  {key(1, 1, 2), key(1, 1, 1)},
		"two equal keys":      {key(1, 1, 1), key(1, 1, 1)},
		"two least keys":      {least, least},
		"two greatest keys":   {greatest, greatest},
	}
	for _, n := range []int{3, 8} {
		falling := row(n)
		slices.Reverse(falling)
		m["decreasing keys"+tag(n)] = falling
		for i := range n - 1 {
			equal, swapped := row(n), row(n)
			equal[i+1] = equal[i]
			swapped[i], swapped[i+1] = swapped[i+1], swapped[i]
			m["two equal keys at"+tag(i)+" of"+tag(n)] = equal
			m["two swapped keys at"+tag(i)+" of"+tag(n)] = swapped
		}
	}
	return m
}

// same tells whether two pages are the same (R8).
func same(a, b page.Page) bool {
	return a.Leaf == b.Leaf && slices.Equal(a.Keys, b.Keys) && slices.Equal(a.Locs, b.Locs) && slices.Equal(a.Kids, b.Kids)
}

// copied shares nothing with p.
func copied(p page.Page) page.Page {
	return page.Page{Leaf: p.Leaf, Keys: slices.Clone(p.Keys), Locs: slices.Clone(p.Locs), Kids: slices.Clone(p.Kids)}
}

// wantPage tells whether Decode(b) is p, and whether the chapter's words say so, too.
func wantPage(t *testing.T, name string, b []byte, p page.Page) {
	t.Helper()
	before := bytes.Clone(b)
	if q, e := page.Decode(b); e != api.OK || !same(q, p) {
		t.Errorf("Decode of %s: %+v, %d, not %+v", name, q, e, p)
	}
	if !bytes.Equal(b, before) {
		t.Errorf("Decode has changed the bytes of %s", name)
	}
	if q, e := slowDecode(b); e != api.OK || !same(q, p) {
		t.Errorf("the chapter's words make of %s: %+v, %d, not %+v", name, q, e, p)
	}
}

// wantNone tells whether Decode(b) is ErrPage, and nothing beside it (R3), and whether the chapter's words say so, too.
func wantNone(t *testing.T, name string, b []byte) {
	t.Helper()
	before := bytes.Clone(b)
	if q, e := page.Decode(b); e != api.ErrPage || !same(q, page.Page{}) {
		t.Errorf("Decode of %s, %x: %+v, %d", name, b, q, e)
	}
	if !bytes.Equal(b, before) {
		t.Errorf("Decode has changed the bytes of %s", name)
	}
	if q, e := slowDecode(b); e != api.ErrPage {
		t.Errorf("the chapter's words make of %s, %x: %+v, %d", name, b, q, e)
	}
}

// P13.2: the chapter's example.
func TestExample(t *testing.T) {
	leaf := leafOf(key(3, 0, 1), key(3, 0, 4))
	if n, found := page.Find(leaf, key(3, 0, 2)); n != 1 || found {
		t.Errorf("Find of 3 {0 2}: %d, %t", n, found)
	}
	if n, found := page.Find(leaf, key(3, 0, 4)); n != 1 || !found {
		t.Errorf("Find of 3 {0 4}: %d, %t", n, found)
	}
}

// P13.1 (Less): keys that differ in one field, in two of them against each other, in none.
func TestLess(t *testing.T) {
	for _, c := range []struct{ low, high page.Key }{
		{key(3, 5, 7), key(4, 5, 7)},
		{key(3, 5, 7), key(3, 6, 7)},
		{key(3, 5, 7), key(3, 5, 8)},
		{key(3, 6, 7), key(4, 5, 7)},
		{key(3, 5, 8), key(4, 5, 7)},
		{key(3, 5, 8), key(3, 6, 7)},
		{key(3, 6, 8), key(4, 5, 7)},
		{key(3, 5, 7), key(4, 6, 8)},
		{least, greatest},
		{least, key(1, 0, 0)},
		{least, key(0, 1, 0)},
		{least, key(0, 0, 1)},
		{key(255, 0, 0), key(256, 0, 0)},
		{key(math.MaxUint16-1, math.MaxUint8, math.MaxUint32), key(math.MaxUint16, 0, 0)},
		{key(7, math.MaxUint8-1, math.MaxUint32), key(7, math.MaxUint8, 0)},
		{key(7, 9, math.MaxUint32-1), key(7, 9, math.MaxUint32)},
		{key(7, 9, 1<<31-1), key(7, 9, 1<<31)},
		{key(1<<15-1, 9, 1), key(1<<15, 9, 1)},
		{key(7, 127, 1), key(7, 128, 1)},
	} {
		if !page.Less(c.low, c.high) || page.Less(c.high, c.low) {
			t.Errorf("%v and %v: Less %t, the other way %t", c.low, c.high, page.Less(c.low, c.high), page.Less(c.high, c.low))
		}
		if page.Less(c.low, c.low) || page.Less(c.high, c.high) {
			t.Errorf("%v or %v is Less than itself", c.low, c.high)
		}
	}
}

// P13.1 (Right): pages that are valid, and pages that are not.
func TestRight(t *testing.T) {
	for name, p := range valid() {
		if before := copied(p); !page.Right(p) || !slowRight(p) || !same(p, before) {
			t.Errorf("%s: Right %t, changed %t", name, page.Right(p), !same(p, before))
		}
	}
	for name, p := range faults() {
		if before := copied(p); page.Right(p) || slowRight(p) || !same(p, before) {
			t.Errorf("%s: Right %t, changed %t", name, page.Right(p), !same(p, before))
		}
	}
}

// P13.2: keys below all, each one, between any two, above all, in pages of each kind and number of keys.
func TestFind(t *testing.T) {
	for n := range 9 {
		for _, p := range both(row(n)...) {
			if n == 0 && !p.Leaf {
				continue
			}
			wantFind(t, p, least, 0, false)
			wantFind(t, p, greatest, n, false)
			for i, k := range p.Keys {
				before, behind := k, k
				before.Dot.Seq--
				behind.Dot.Seq++
				wantFind(t, p, before, i, false)
				wantFind(t, p, k, i, true)
				wantFind(t, p, behind, i+1, false)
				for _, far := range []page.Key{key(k.Cart, k.Dot.Rep, 0), key(k.Cart, k.Dot.Rep, math.MaxUint32), key(k.Cart, 0, math.MaxUint32), key(k.Cart, math.MaxUint8, 0)} {
					m, _ := slowFind(p, far)
					wantFind(t, p, far, m, false)
				}
			}
		}
	}
	for _, p := range both(least, greatest) {
		wantFind(t, p, least, 0, true)
		wantFind(t, p, key(0, 0, 1), 1, false)
		wantFind(t, p, key(math.MaxUint16, math.MaxUint8, math.MaxUint32-1), 1, false)
		wantFind(t, p, greatest, 1, true)
	}
}

// wantFind tells whether Find of k in p is n and found, and whether the chapter's words say so, too.
func wantFind(t *testing.T, p page.Page, k page.Key, n int, found bool) {
	t.Helper()
	before := copied(p)
	if m, is := page.Find(p, k); m != n || is != found {
		t.Errorf("Find of %v in %+v: %d, %t, not %d, %t", k, p, m, is, n, found)
	}
	if !same(p, before) {
		t.Errorf("Find of %v has changed %+v", k, before)
	}
	if m, is := slowFind(p, k); m != n || is != found {
		t.Errorf("the chapter's words find %v in %+v: %d, %t, not %d, %t", k, p, m, is, n, found)
	}
}

// P13.2: in pages that are not valid nothing is found.
func TestFindFaults(t *testing.T) {
	for name, p := range faults() {
		for _, k := range append([]page.Key{least, key(3, 1, 15), greatest}, p.Keys...) {
			if n, found := page.Find(p, k); n != 0 || found {
				t.Errorf("Find of %v in %s: %d, %t", k, name, n, found)
			}
		}
	}
}

// P13.3 (Encode), byte by byte; and P13.4, for pages of each kind.
func TestEncode(t *testing.T) {
	for name, p := range valid() {
		before := copied(p)
		b, e := page.Encode(p)
		if e != api.OK || !bytes.Equal(b, encoded(p)) {
			t.Errorf("Encode of %s: %x, %d", name, b, e)
		}
		if !same(p, before) {
			t.Errorf("Encode has changed %s", name)
		}
		wantPage(t, name, b, p)
	}
	for _, c := range []struct {
		p       page.Page
		content []byte
	}{
		{page.Page{Leaf: true}, []byte{2, 1, 0}},
		{page.Page{Leaf: true, Keys: []page.Key{key(300, 2, 3)}, Locs: []page.Loc{{Seg: 4, At: 500}}}, []byte{9, 1, 1, 0xac, 2, 2, 3, 4, 0xf4, 3}},
		{page.Page{Keys: []page.Key{key(1, 2, 3), key(1, 2, 300)}, Kids: []uint32{9, 8}}, []byte{11, 0, 2, 1, 2, 3, 9, 1, 2, 0xac, 2, 8}},
	} {
		if b, e := page.Encode(c.p); e != api.OK || len(b) != len(c.content)+4 || !bytes.HasPrefix(b, c.content) {
			t.Errorf("Encode of %+v: %x, %d", c.p, b, e)
		}
	}
}

// P13.3 (Encode), R3: pages that are not valid.
func TestEncodeFaults(t *testing.T) {
	for name, p := range faults() {
		before := copied(p)
		if b, e := page.Encode(p); e != api.ErrPage || len(b) != 0 {
			t.Errorf("Encode of %s: %x, %d", name, b, e)
		}
		if !same(p, before) {
			t.Errorf("Encode has changed %s", name)
		}
	}
}

// P13.3 (Decode): no bytes, each prefix, bytes behind, each byte turned in each way.
func TestDecodeTorn(t *testing.T) {
	wantNone(t, "no bytes", nil)
	wantNone(t, "no bytes, not nil", []byte{})
	for name, p := range valid() {
		b := encoded(p)
		for k := range b {
			wantNone(t, "a prefix of "+name, b[:k])
		}
		for _, tail := range [][]byte{{0}, {1}, {255}, framed(nil), b} {
			wantNone(t, "more than "+name, concat(b, tail))
			wantNone(t, "bytes ahead of "+name, concat(tail, b))
		}
		for i := range b {
			for turn := 1; turn < 256; turn += 1 + len(b)/8 {
				turned := bytes.Clone(b)
				turned[i] ^= byte(turn)
				wantNone(t, name+" with a byte turned", turned)
			}
		}
	}
	for _, p := range both(row(3)...) {
		b := encoded(p)
		for i := range b {
			for turn := range 255 {
				turned := bytes.Clone(b)
				turned[i] ^= byte(turn + 1)
				wantNone(t, "three keys with a byte turned", turned)
			}
		}
	}
}

// P13.3 (Decode): frames, whole ones, whose fields are not a page's.
func TestDecodeFields(t *testing.T) {
	leafKey, innerKey := list(3, 1, 10, 0, 300), list(3, 1, 10, 200)
	for name, content := range map[string][]byte{
		"no field":                           nil,
		"a leaf's first field alone":         list(1),
		"an inner page's first field alone":  list(0),
		"an inner page of no key":            list(0, 0),
		"a page of kind 2":                   list(2, 0),
		"a page of kind 2 with a leaf's key": concat(list(2, 1), leafKey),
		"a page of kind 2 with a Kid":        concat(list(2, 1), innerKey),
		"a page of kind 3":                   concat(list(3, 1), leafKey),
		"a page of kind 256":                 concat(list(256, 1), innerKey),
		"a page of kind 257":                 concat(list(257, 1), leafKey),
		"a page of kind 2^32":                concat(list(1<<32, 1), innerKey),
		"a page of kind 2^32 + 1":            concat(list(1<<32+1, 1), leafKey),
		"a page of the greatest kind":        concat(list(math.MaxUint64, 1), leafKey),
		"a leaf of the fields of a Kid":      concat(list(1, 1), innerKey),
		"an inner page of a Loc":             concat(list(0, 1), leafKey),
		"a leaf of no key with a key":        concat(list(1, 0), leafKey),
		"an inner page of no key with a key": concat(list(0, 0), innerKey),
		"a leaf of keys without end":         concat(list(1, math.MaxUint64), leafKey),
		"an inner page of keys without end":  concat(list(0, math.MaxUint64), innerKey),
		"a leaf of 2^32 + 1 keys":            concat(list(1, 1<<32+1), leafKey),
		"an inner page of 257 keys":          concat(list(0, 257), innerKey),
		"an empty leaf with a field behind":  list(1, 0, 0),
		"bytes that are no number":           {0x80},
	} {
		wantNone(t, name, framed(content))
	}
	wantPage(t, "a leaf of one key", framed(concat(list(1, 1), leafKey)), page.Page{Leaf: true, Keys: row(1), Locs: []page.Loc{{Seg: 0, At: 300}}})
	wantPage(t, "an inner page of one key", framed(concat(list(0, 1), innerKey)), page.Page{Keys: row(1), Kids: []uint32{200}})
}

// P13.3 (Decode): a number of keys that is less or more than what follows, or above 8.
func TestDecodeCount(t *testing.T) {
	for n := range 9 {
		for _, p := range both(row(n)...) {
			for count := range uint64(20) {
				l := numbersIn(p)
				l[1] = count
				if count != uint64(n) {
					wantNone(t, "a page of"+tag(n)+" keys that tells another number", framed(list(l...)))
				}
			}
		}
	}
	for _, p := range faults() {
		if len(p.Keys) > 8 {
			wantNone(t, "a page of too many keys", encoded(p))
		}
	}
}

// P13.3 (Decode): fields behind the last one.
func TestDecodeBehind(t *testing.T) {
	for name, p := range valid() {
		l := numbersIn(p)
		for _, behind := range [][]byte{{0}, {1}, {0x80}, list(0, 0), list(9, 9, 9, 9), list(math.MaxUint16, 255, 9, 9, 9)} {
			wantNone(t, name+" with fields behind", framed(concat(list(l...), behind)))
		}
		for k := range l {
			wantNone(t, name+" with fields missing", framed(list(l[:k]...)))
		}
	}
}

// P13.3 (Decode): each number above what its field can hold, also if what fits of it would be in order.
func TestDecodeAbove(t *testing.T) {
	for name, p := range valid() {
		l := numbersIn(p)
		each := 4 + int(l[0])
		for i := range l[2:] {
			most := widths[i%each]
			for _, n := range []uint64{most + 1, most + 2, 2*most + 1, l[2+i] + most + 1, l[2+i] + 1<<32, l[2+i] + 1<<63, math.MaxUint64} {
				above := slices.Clone(l)
				above[2+i] = n
				wantNone(t, name+" with a number above its field", framed(list(above...)))
			}
		}
	}
}

// P13.3 (Decode): each number, and the frame's length, in a form that is not the shortest.
func TestDecodeForms(t *testing.T) {
	for name, p := range valid() {
		l := numbersIn(p)
		for i := range l {
			for _, zeros := range [][]byte{{0}, {0x80, 0}} {
				long := longer(list(l[i]), zeros)
				wantNone(t, name+" with a needless zero", framed(concat(list(l[:i]...), long, list(l[i+1:]...))))
			}
		}
		content := list(l...)
		length := longer(list(uint64(len(content))), []byte{0})
		wantNone(t, name+" with a length that is not the shortest", summed(concat(length, content)))
	}
}

// longer is the form of a number with zeros behind it.
func longer(form, zeros []byte) []byte {
	b := bytes.Clone(form)
	b[len(b)-1] |= 0x80
	return append(b, zeros...)
}

// P13.3 (Decode): bytes that are all right but for the order of the keys.
func TestDecodeOrder(t *testing.T) {
	for name, keys := range disorder() {
		for _, p := range both(keys...) {
			wantNone(t, name, encoded(p))
		}
	}
}

// R6: what was passed is not kept, nor is what was returned.
func TestApart(t *testing.T) {
	for name, p := range valid() {
		want := copied(p)
		b, _ := page.Encode(p)
		other, _ := page.Encode(p)
		before := bytes.Clone(b)
		q, _ := page.Decode(b)
		r, _ := page.Decode(b)
		turn(q)
		if !same(r, want) || !same(p, want) || !bytes.Equal(b, before) {
			t.Errorf("%s: changing what Decode returned changes something else", name)
		}
		for i := range b {
			b[i] ^= 0xff
		}
		if !same(r, want) || !same(p, want) || !bytes.Equal(other, before) {
			t.Errorf("%s: changing what Encode returned changes something else", name)
		}
		turn(p)
		if !same(r, want) || !bytes.Equal(other, before) {
			t.Errorf("%s: changing what was passed changes something else", name)
		}
		wantPage(t, name, before, want)
	}
}

// turn changes all keys, Locs and Kids of p.
func turn(p page.Page) {
	for i := range p.Keys {
		p.Keys[i] = key(^p.Keys[i].Cart, 7, 7)
	}
	for i := range p.Locs {
		p.Locs[i] = page.Loc{Seg: ^p.Locs[i].Seg, At: 7}
	}
	for i := range p.Kids {
		p.Kids[i] = ^p.Kids[i]
	}
}

// R6: the lists of a page do not reach into each other, nor into those of another one.
func TestAppend(t *testing.T) {
	for name, p := range valid() {
		b := encoded(p)
		q, _ := page.Decode(b)
		r, _ := page.Decode(b)
		q.Keys = append(q.Keys, greatest)
		q.Locs = append(q.Locs, page.Loc{Seg: 1, At: 1})
		q.Kids = append(q.Kids, 1)
		if n := len(p.Keys); !same(r, p) || !slices.Equal(q.Keys[:n], p.Keys) {
			t.Errorf("%s: appending to what Decode returned changes something else", name)
		}
	}
}
