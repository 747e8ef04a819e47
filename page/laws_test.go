package page_test

import (
	"bytes"
	"cmp"
	"math"
	"slices"
	"testing"

	"trug/api"
	"trug/page"
)

// random is a source of numbers that are the same in every run.
type random uint64

func (r *random) next() uint64 {
	*r ^= *r << 13
	*r ^= *r >> 7
	*r ^= *r << 17
	return uint64(*r)
}

func (r *random) below(n int) int {
	return int(r.next() >> 20 % uint64(n))
}

func (r *random) bytes(n int) []byte {
	b := make([]byte, n)
	for i := range b {
		b[i] = byte(r.next() >> 24)
	}
	return b
}

// number is often small, so that there are equal ones, and now and then up to most, most itself too.
func (r *random) number(most uint64) uint64 {
	switch r.below(4) {
	case 0:
		return r.next() % (most + 1)
	case 1:
		return most - uint64(r.below(3))
	}
	return uint64(r.below(4))
}

func (r *random) key() page.Key {
	return key(uint16(r.number(math.MaxUint16)), uint8(r.number(math.MaxUint8)), uint32(r.number(math.MaxUint32)))
}

func (r *random) keys(n int) []page.Key {
	l := make([]page.Key, n)
	for i := range l {
		l[i] = r.key()
	}
	return l
}

// page is one that is mostly valid; now and then its keys are not in order, too many, or not as many as its Locs or Kids.
func (r *random) page() page.Page {
	keys := r.keys(r.below(10))
	if r.below(10) > 0 {
		slices.SortFunc(keys, func(a, b page.Key) int { return cmp.Compare(place(a), place(b)) })
	}
	if r.below(10) > 0 {
		keys = slices.Compact(keys)
	}
	p := page.Page{Leaf: r.below(2) == 0, Keys: keys}
	each := len(keys)
	switch r.below(10) {
	case 0:
		each++
	case 1:
		each = max(0, each-1)
	}
	for range each {
		if p.Leaf {
			p.Locs = append(p.Locs, page.Loc{Seg: uint32(r.number(math.MaxUint32)), At: uint32(r.number(math.MaxUint32))})
		} else {
			p.Kids = append(p.Kids, uint32(r.number(math.MaxUint32)))
		}
	}
	if r.below(20) == 0 {
		p.Locs = append(p.Locs, page.Loc{})
	}
	if r.below(20) == 0 {
		p.Kids = append(p.Kids, 0)
	}
	return p
}

// P13.4: Decode of Encode is the page, and Encode of Decode the bytes, for many pages; and all else that the chapter says of them.
func TestBack(t *testing.T) {
	r := random(1)
	tried := map[bool]int{}
	for range 30000 {
		p := r.page()
		before := copied(p)
		right := slowRight(p)
		tried[right]++
		if page.Right(p) != right {
			t.Fatalf("Right of %+v: %t", p, !right)
		}
		b, e := page.Encode(p)
		want, f := slowEncode(p)
		if e != f || !bytes.Equal(b, want) {
			t.Fatalf("Encode of %+v: %x, %d, not %x, %d", p, b, e, want, f)
		}
		for _, k := range append(r.keys(3), p.Keys...) {
			n, found := page.Find(p, k)
			if m, is := slowFind(p, k); n != m || found != is {
				t.Fatalf("Find of %v in %+v: %d, %t, not %d, %t", k, p, n, found, m, is)
			}
		}
		if right {
			wantPage(t, "a page", b, p)
			q, _ := page.Decode(b)
			if again, e := page.Encode(q); e != api.OK || !bytes.Equal(again, b) {
				t.Fatalf("Encode of Decode of %x: %x, %d", b, again, e)
			}
		}
		if !same(p, before) {
			t.Fatalf("a call has changed %+v: %+v", before, p)
		}
	}
	if tried[true] < 10000 || tried[false] < 5000 {
		t.Errorf("tried %d valid pages and %d others", tried[true], tried[false])
	}
}

// numbers are those of some page, often with a turn: one of them another, one more, one less.
func (r *random) numbers() []uint64 {
	l := numbersIn(r.page())
	i := r.below(len(l))
	switch r.below(5) {
	case 0:
		l[i] = r.number(1 << 40)
	case 1:
		l[i] += uint64(1) << r.below(64)
	case 2:
		l = slices.Insert(l, i, r.number(1<<33))
	case 3:
		l = slices.Delete(l, i, i+1)
	}
	return l
}

// P13.3, P13.4 over whatever fields: a page is returned where the chapter's words say so, and then the bytes are its encoding. R1: no bytes make Decode panic.
func TestFields(t *testing.T) {
	r := random(2)
	answers := map[api.Errno]int{}
	for range 60000 {
		b := framed(list(r.numbers()...))
		switch r.below(20) {
		case 0:
			b = r.bytes(r.below(60))
		case 1:
			b = framed(r.bytes(r.below(60)))
		case 2:
			b = b[:r.below(len(b))]
		}
		q, e := page.Decode(b)
		want, f := slowDecode(b)
		if e != f || !same(q, want) {
			t.Fatalf("Decode of %x: %+v, %d, not %+v, %d", b, q, e, want, f)
		}
		answers[e]++
		if e != api.OK {
			continue
		}
		if again, e := page.Encode(q); e != api.OK || !bytes.Equal(again, b) {
			t.Fatalf("Encode of Decode of %x: %x, %d", b, again, e)
		}
	}
	if answers[api.OK] < 5000 || answers[api.ErrPage] < 5000 {
		t.Errorf("answers %v", answers)
	}
}

// edges are all keys of some numbers that stand at the edges of their fields.
func edges() []page.Key {
	var l []page.Key
	for _, cart := range []uint16{0, 1, 255, 256, math.MaxUint16} {
		for _, rep := range []uint8{0, 1, 128, math.MaxUint8} {
			for _, seq := range []uint32{0, 1, 1 << 16, math.MaxUint32} {
				l = append(l, key(cart, rep, seq))
			}
		}
	}
	return l
}

// P13.5: of any two unlike keys just one is Less, and none than itself; Less is transitive.
func TestOrder(t *testing.T) {
	r := random(3)
	keys := append(edges(), r.keys(100)...)
	for _, a := range keys {
		for _, b := range keys {
			ab, ba := page.Less(a, b), page.Less(b, a)
			if a == b && (ab || ba) {
				t.Fatalf("%v is Less than itself", a)
			}
			if a != b && ab == ba {
				t.Fatalf("%v and %v: Less %t, the other way %t", a, b, ab, ba)
			}
			if ab != (place(a) < place(b)) {
				t.Fatalf("Less of %v and %v: %t", a, b, ab)
			}
			for _, c := range keys {
				if ab && page.Less(b, c) && !page.Less(a, c) {
					t.Fatalf("%v is Less than %v, and that than %v, but not the first than the last", a, b, c)
				}
			}
		}
	}
}
