package page_test

import (
	"bytes"
	"hash/crc32"
	"math"
	"math/bits"

	"trug/api"
	"trug/page"
)

// The functions below read this chapter, and those of the layers below it, word by word, so that they owe nothing to the packages.

// numbered is the shortest form of n.
func numbered(n uint64) []byte {
	var b []byte
	for ; n > 127; n /= 128 {
		b = append(b, byte(n%128)+128)
	}
	return append(b, byte(n))
}

// list is the form of some numbers, one behind the other.
func list(numbers ...uint64) []byte {
	var b []byte
	for _, n := range numbers {
		b = append(b, numbered(n)...)
	}
	return b
}

func concat(parts ...[]byte) []byte {
	return bytes.Join(parts, nil)
}

// framed is the frame of a content.
func framed(content []byte) []byte {
	return summed(concat(numbered(uint64(len(content))), content))
}

// summed is b, and behind it its checksum.
func summed(b []byte) []byte {
	sum := crc32.ChecksumIEEE(b)
	return append(b, byte(sum), byte(sum>>8), byte(sum>>16), byte(sum>>24))
}

// number takes the number that b begins with, if it stands there in its shortest form.
func number(b []byte) (n uint64, rest []byte, ok bool) {
	for i, c := range b {
		high, low := bits.Mul64(uint64(c%128), 1<<min(7*i, 63))
		if high != 0 || i > 9 {
			return 0, nil, false
		}
		n += low
		if c < 128 {
			return n, b[i+1:], bytes.Equal(numbered(n), b[:i+1])
		}
	}
	return 0, nil, false
}

// numbersOf are all the numbers that b consists of, and whether it consists of nothing else.
func numbersOf(b []byte) (l []uint64, ok bool) {
	for len(b) > 0 {
		n, rest, ok := number(b)
		if !ok {
			return nil, false
		}
		l, b = append(l, n), rest
	}
	return l, true
}

// place is a key as one number, so that a greater number is a greater key.
func place(k page.Key) uint64 {
	return uint64(k.Cart)<<40 + uint64(k.Dot.Rep)<<32 + uint64(k.Dot.Seq)
}

// slowRight tells by the chapter's words whether p is valid.
func slowRight(p page.Page) bool {
	keys, locs, kids := len(p.Keys), len(p.Locs), len(p.Kids)
	for i, k := range p.Keys {
		if i > 0 && place(p.Keys[i-1]) >= place(k) {
			return false
		}
	}
	leaf := p.Leaf && locs == keys && kids == 0
	inner := !p.Leaf && kids == keys && keys >= 1 && locs == 0
	return keys <= 8 && (leaf || inner)
}

// slowFind is Find by the chapter's words.
func slowFind(p page.Page, k page.Key) (n int, found bool) {
	if !slowRight(p) {
		return 0, false
	}
	for _, other := range p.Keys {
		if place(other) < place(k) {
			n++
		}
		if place(other) == place(k) {
			found = true
		}
	}
	return n, found
}

// numbersIn are the numbers that the chapter makes of a page, whether or not it is valid; of Locs and Kids that are missing it makes none.
func numbersIn(p page.Page) []uint64 {
	l := []uint64{0, uint64(len(p.Keys))}
	if p.Leaf {
		l[0] = 1
	}
	for i, k := range p.Keys {
		l = append(l, uint64(k.Cart), uint64(k.Dot.Rep), uint64(k.Dot.Seq))
		if p.Leaf && i < len(p.Locs) {
			l = append(l, uint64(p.Locs[i].Seg), uint64(p.Locs[i].At))
		}
		if !p.Leaf && i < len(p.Kids) {
			l = append(l, uint64(p.Kids[i]))
		}
	}
	return l
}

// encoded is the encoding of a page, whether or not it is valid.
func encoded(p page.Page) []byte {
	return framed(list(numbersIn(p)...))
}

// slowEncode is Encode by the chapter's words.
func slowEncode(p page.Page) ([]byte, api.Errno) {
	if !slowRight(p) {
		return nil, api.ErrPage
	}
	return encoded(p), api.OK
}

// slowDecode is Decode by the chapter's words.
func slowDecode(b []byte) (page.Page, api.Errno) {
	n, rest, ok := number(b)
	if !ok || n > 4096 || uint64(len(rest)) != n+4 || !bytes.Equal(b, framed(rest[:n])) {
		return page.Page{}, api.ErrPage
	}
	l, ok := numbersOf(rest[:n])
	if !ok {
		return page.Page{}, api.ErrPage
	}
	p, ok := pageOf(l)
	if !ok || !slowRight(p) {
		return page.Page{}, api.ErrPage
	}
	return p, api.OK
}

// widths are the largest numbers that a key's fields can hold, and the two behind them.
var widths = []uint64{math.MaxUint16, math.MaxUint8, math.MaxUint32, math.MaxUint32, math.MaxUint32}

// pageOf is the page that has these numbers, if its fields can hold them all.
func pageOf(l []uint64) (p page.Page, ok bool) {
	if len(l) < 2 || l[0] > 1 {
		return p, false
	}
	p.Leaf = l[0] == 1
	each := 4 + int(l[0])
	rest := l[2:]
	if len(rest)%each != 0 || uint64(len(rest)/each) != l[1] {
		return p, false
	}
	for i, n := range rest {
		if n > widths[i%each] {
			return p, false
		}
	}
	for ; len(rest) > 0; rest = rest[each:] {
		p.Keys = append(p.Keys, key(uint16(rest[0]), uint8(rest[1]), uint32(rest[2])))
		if p.Leaf {
			p.Locs = append(p.Locs, page.Loc{Seg: uint32(rest[3]), At: uint32(rest[4])})
		} else {
			p.Kids = append(p.Kids, uint32(rest[3]))
		}
	}
	return p, true
}
