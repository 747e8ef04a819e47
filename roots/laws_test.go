package roots_test

import (
	"bytes"
	"slices"
	"testing"

	"trug/api"
	"trug/page"
	"trug/roots"
	"trug/tree"
)

// random is a source of numbers that are the same in every run.
type random uint64

func (r *random) next() uint64 {
	*r ^= *r << 13
	*r ^= *r >> 7
	*r ^= *r << 17
	return uint64(*r)
}

func (r *random) below(n int) int {
	return int(r.next() >> 20 % uint64(n))
}

func (r *random) bytes(n int) []byte {
	b := make([]byte, n)
	for i := range b {
		b[i] = byte(r.next() >> 24)
	}
	return b
}

// items are up to n items in order, with numbers of all lengths.
func (r *random) items(n int) []tree.Item {
	m := map[uint64]tree.Item{}
	for range r.below(n + 1) {
		x := tree.Item{Key: key(uint16(r.number()), uint8(r.number()), uint32(r.number()))}
		x.Loc = page.Loc{Seg: uint32(r.number()), At: uint32(r.number())}
		m[place(x.Key)] = x
	}
	var l []tree.Item
	for _, x := range m {
		l = append(l, x)
	}
	slices.SortFunc(l, func(a, b tree.Item) int {
		if place(a.Key) < place(b.Key) {
			return -1
		}
		return 1
	})
	return l
}

// number is one of any length in bits.
func (r *random) number() uint64 {
	return r.next() >> r.below(64)
}

// P15.1, P15.2, P15.4: items with any numbers, at any base, with any bytes ahead and behind.
func TestBack(t *testing.T) {
	r := random(2)
	for range 1500 {
		l := r.items(200)
		ahead, behind := r.bytes(r.below(300)), r.bytes(r.below(40))
		version := r.number()
		b, s := dump(t, l, version, len(ahead))
		if want, slot := dumped(l, version, len(ahead)); !bytes.Equal(b, want) || s != slot {
			t.Fatalf("Dump of %d: %+v, not %+v", len(l), s, slot)
		}
		all := concat(ahead, b, behind)
		loaded(t, "any items", all, s, l)
		lost(t, "any items, cut", all[:r.below(int(s.End))], s, api.ErrShort)
	}
}

// P15.2: Load does what the chapter says, whatever was changed in what Dump returned: bytes, also with a new checksum, the slot, or both.
func TestLoadChanged(t *testing.T) {
	r := random(3)
	answers := map[api.Errno]int{}
	for range 15000 {
		l := r.items(30)
		ahead := r.bytes(r.below(20))
		b, s := dumped(l, r.number(), len(ahead))
		b = concat(ahead, b, r.bytes(r.below(20)))
		for range r.below(3) {
			b = r.turn(b, &s)
		}
		want, e := slowLoad(b, s)
		got, f := roots.Load(b, s)
		if f != e || !slices.Equal(got, want) {
			t.Fatalf("Load of % x, %+v: %d items, %d, not %d, %d", b, s, len(got), f, len(want), e)
		}
		answers[e]++
	}
	if answers[api.OK] < 1000 || answers[api.ErrPage] < 1000 || answers[api.ErrShort] < 100 {
		t.Errorf("answers %v", answers)
	}
}

// turn changes b or s in one of several ways.
func (r *random) turn(b []byte, s *roots.Slot) []byte {
	b = bytes.Clone(b)
	switch r.below(9) {
	case 0:
		if len(b) > 0 {
			b[r.below(len(b))] ^= 1 << r.below(8)
		}
	case 1:
		b = b[:r.below(len(b)+1)]
	case 2:
		s.Version = r.next()
	case 3:
		s.At = uint32(r.below(len(b) + 2))
	case 4:
		s.End = uint32(r.below(len(b) + 2))
	case 5:
		s.Items = uint32(r.below(40))
	case 6:
		// The bytes of the file elsewhere, where the slot's offsets may or may not go along.
		more := r.below(5)
		b = concat(make([]byte, more), b)
		if r.below(2) == 0 {
			s.At, s.End = s.At+uint32(more), s.End+uint32(more)
		}
	default:
		r.forge(b)
	}
	return b
}

// forge changes a byte of some frame in b, and makes its checksum right again.
func (r *random) forge(b []byte) {
	var frames [][]byte
	for i := range b {
		if size := int(b[i]) + 5; b[i] < 128 && i+size <= len(b) && bytes.Equal(summed(bytes.Clone(b[i:i+size-4])), b[i:i+size]) {
			frames = append(frames, b[i:i+size])
		}
	}
	if len(frames) == 0 {
		return
	}
	f := frames[r.below(len(frames))]
	body := bytes.Clone(f[:len(f)-4])
	if len(body) > 1 {
		body[1+r.below(len(body)-1)] ^= 1 << r.below(8)
	}
	copy(f, summed(body))
}

// P15.2: Load of indexes with other runs, keys and Kids, each page of which is right; now and then they are those of Dump.
func TestLoadOther(t *testing.T) {
	r := random(4)
	answers := map[api.Errno]int{}
	for range 4000 {
		n := r.below(90)
		f := file{b: r.bytes(r.below(3))}
		r.index(&f, n, r.below(3) > 0)
		s := f.slot(n)
		want, e := slowLoad(f.b, s)
		got, g := roots.Load(f.b, s)
		if g != e || !slices.Equal(got, want) {
			t.Fatalf("Load of % x, %+v: %d items, %d, not %d, %d", f.b, s, len(got), g, len(want), e)
		}
		answers[e]++
	}
	if answers[api.OK] < 100 || answers[api.ErrPage] < 1000 || len(answers) != 2 {
		t.Errorf("answers %v", answers)
	}
}

// index writes an index of the first n items; where it is not careful, some run may be another one than of 8, some key or Kid may be wrong, and some page may stand there once more.
func (r *random) index(f *file, n int, careful bool) {
	kids, firsts := []uint32{}, []int{}
	for first := 0; first == 0 || first < n; {
		end := min(n, first+r.run(careful))
		p := leaf(first, end)
		if n == 0 {
			p = page.Page{Leaf: true}
		}
		kids, firsts = append(kids, f.add(p)...), append(firsts, first)
		first = max(end, 1)
	}
	for len(kids) > 1 {
		var above []uint32
		var least []int
		for len(kids) > 0 {
			end := min(len(kids), max(2, r.run(careful)))
			p := inner(kids[:end], firsts[:end]...)
			r.spoil(&p)
			above, least = append(above, f.add(p)...), append(least, firsts[0])
			kids, firsts = kids[end:], firsts[end:]
			if !careful && r.below(30) == 0 {
				f.add(p)
			}
		}
		kids, firsts = above, least
	}
}

// run is mostly 8, and always where it has to be.
func (r *random) run(careful bool) int {
	if careful || r.below(4) > 0 {
		return 8
	}
	return 1 + r.below(8)
}

// spoil changes, now and then, a Kid or a key of p.
func (r *random) spoil(p *page.Page) {
	i := r.below(len(p.Keys))
	switch r.below(60) {
	case 0:
		p.Kids[i] += uint32(r.below(3)) - 1
	case 1:
		p.Kids[i] = p.Kids[r.below(len(p.Kids))]
	case 2:
		p.Keys[i].Dot.Seq++
	case 3:
		p.Keys[i].Dot.Seq--
	}
}

// P15.3: Pick does what the chapter says, whatever was changed in two slots.
func TestPickChanged(t *testing.T) {
	r := random(5)
	answers := map[api.Errno]int{}
	slot := func() []byte {
		b := roots.Encode(roots.Slot{Version: uint64(r.below(3)), At: uint32(r.number()), End: uint32(r.number()), Items: uint32(r.number())})
		switch r.below(6) {
		case 0:
			b[r.below(len(b))] ^= 1 << r.below(8)
		case 1:
			b = b[:r.below(len(b)+1)]
		case 2:
			r.forge(b)
		case 3:
			b = framed(list(uint64(r.below(3)), r.number(), r.number(), r.number()))
		}
		return b
	}
	for range 20000 {
		a, b := slot(), slot()
		want, e := slowPick(a, b)
		if s, f := roots.Pick(a, b); s != want || f != e {
			t.Fatalf("Pick(% x, % x): %+v, %d, not %+v, %d", a, b, s, f, want, e)
		}
		answers[e]++
	}
	if answers[api.OK] < 1000 || answers[api.ErrNone] < 1000 {
		t.Errorf("answers %v", answers)
	}
}

// R1: any bytes, with any slot.
func TestAny(t *testing.T) {
	r := random(6)
	for range 20000 {
		b := r.bytes(r.below(60))
		s := roots.Slot{Version: r.number(), At: uint32(r.number()), End: uint32(r.number()), Items: uint32(r.number())}
		want, e := slowLoad(b, s)
		if l, f := roots.Load(b, s); f != e || !slices.Equal(l, want) {
			t.Fatalf("Load(% x, %+v): %d items, %d, not %d", b, s, len(l), f, e)
		}
		if got, f := roots.Pick(b, b[len(b)/2:]); f != api.ErrNone || got != (roots.Slot{}) {
			t.Fatalf("Pick(% x): %+v, %d", b, got, f)
		}
	}
}

// R6: changing or extending what was given, or what was returned, changes nothing else.
func TestApart(t *testing.T) {
	for _, n := range []int{0, 1, 8, 9, 65, 4096} {
		room := append(items(n), item(n), item(n+1))
		l := room[:n]
		b, s := dump(t, l, 4, 3)
		again, _ := dump(t, l, 4, 3)
		if !slices.Equal(room, append(items(n), item(n), item(n+1))) {
			t.Fatalf("Dump of %d items changes them", n)
		}
		clear(l)
		want, slot := dumped(items(n), 4, 3)
		if !bytes.Equal(b, want) || s != slot {
			t.Fatalf("changing the %d items changes what Dump returned", n)
		}
		flip(append(b, 1, 2, 3))
		if !bytes.Equal(again, want) {
			t.Fatalf("changing what Dump of %d items returned changes what it returns again", n)
		}
		all := concat([]byte{1, 2, 3}, again, []byte{4, 5, 6})
		given := bytes.Clone(all)
		got, _ := roots.Load(all[:s.End], s)
		other, _ := roots.Load(all[:s.End], s)
		flip(all)
		if !slices.Equal(got, items(n)) {
			t.Fatalf("changing the bytes changes what Load of %d items returned", n)
		}
		flip(all)
		clear(append(got, tree.Item{Key: greatest}))
		if !bytes.Equal(all, given) || !slices.Equal(other, items(n)) {
			t.Fatalf("changing what Load of %d items returned changes something else", n)
		}
	}
}

// R6: so it is with slots.
func TestApartSlots(t *testing.T) {
	s := roots.Slot{Version: 4, At: 5, End: 6, Items: 7}
	b, again := roots.Encode(s), roots.Encode(s)
	got, _ := roots.Pick(b, nil)
	flip(append(b, 1, 2))
	if got != s || !bytes.Equal(again, slowEncode(s)) {
		t.Errorf("changing a slot's bytes: %+v, % x", got, again)
	}
}

// flip changes each byte of b.
func flip(b []byte) {
	for i := range b {
		b[i] ^= 0xff
	}
}
