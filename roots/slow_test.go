package roots_test

import (
	"bytes"
	"encoding/binary"
	"hash/crc32"
	"math"

	"trug/api"
	"trug/page"
	"trug/roots"
	"trug/tree"
)

const (
	maxOps  = 4096
	maxBase = 1 << 30
)

// The functions below read this chapter, and those of the layers below it, word by word, so that they owe nothing to the packages.

// list is the form of some numbers, one behind the other.
func list(numbers ...uint64) []byte {
	var b []byte
	for _, n := range numbers {
		b = binary.AppendUvarint(b, n)
	}
	return b
}

func concat(parts ...[]byte) []byte {
	return bytes.Join(parts, nil)
}

// framed is the frame of a content.
func framed(content []byte) []byte {
	return summed(concat(list(uint64(len(content))), content))
}

// summed is b, and behind it its checksum.
func summed(b []byte) []byte {
	return binary.LittleEndian.AppendUint32(b, crc32.ChecksumIEEE(b))
}

// place is a key as one number, so that a greater number is a greater key.
func place(k page.Key) uint64 {
	return uint64(k.Cart)<<40 + uint64(k.Dot.Rep)<<32 + uint64(k.Dot.Seq)
}

// numbersOf are the fields of a page, whether or not it is valid; of Kids that are missing it has none.
func numbersOf(p page.Page) []uint64 {
	l := []uint64{0, uint64(len(p.Keys))}
	if p.Leaf {
		l[0] = 1
	}
	for i, k := range p.Keys {
		l = append(l, uint64(k.Cart), uint64(k.Dot.Rep), uint64(k.Dot.Seq))
		switch {
		case p.Leaf:
			l = append(l, uint64(p.Locs[i].Seg), uint64(p.Locs[i].At))
		case i < len(p.Kids):
			l = append(l, uint64(p.Kids[i]))
		}
	}
	return l
}

// encoded is the encoding of a page, whether or not it is valid.
func encoded(p page.Page) []byte {
	return framed(list(numbersOf(p)...))
}

// sheet is the page of a level that begins with the item number first; each page of its level is above so many items at most, and below are the offsets of the level below.
func sheet(l []tree.Item, first, width int, below []int) page.Page {
	p := page.Page{Leaf: width == 8}
	each := width / 8
	for i := first; i < len(l) && i < first+width; i += each {
		p.Keys = append(p.Keys, l[i].Key)
		if p.Leaf {
			p.Locs = append(p.Locs, l[i].Loc)
		} else {
			p.Kids = append(p.Kids, uint32(below[i/each]))
		}
	}
	return p
}

// sheets are the pages of any items at any base, level by level, and the offset of each of them.
func sheets(l []tree.Item, base int) (pages [][]page.Page, offsets [][]int) {
	offset := base
	var below []int
	for width := 8; ; width *= 8 {
		var level []page.Page
		var at []int
		for first := 0; first == 0 || first < len(l); first += width {
			p := sheet(l, first, width, below)
			level, at = append(level, p), append(at, offset)
			offset += len(encoded(p))
		}
		pages, offsets = append(pages, level), append(offsets, at)
		if len(level) == 1 {
			return pages, offsets
		}
		below = at
	}
}

// dumped is what Dump has for any items, version and base that it does not refuse.
func dumped(l []tree.Item, version uint64, base int) ([]byte, roots.Slot) {
	pages, offsets := sheets(l, base)
	var b []byte
	for _, level := range pages {
		for _, p := range level {
			b = append(b, encoded(p)...)
		}
	}
	root := offsets[len(offsets)-1][0]
	return b, roots.Slot{Version: version, At: uint32(root), End: uint32(base + len(b)), Items: uint32(len(l))}
}

// slowDump is Dump by the chapter's words.
func slowDump(l []tree.Item, version uint64, base int) ([]byte, roots.Slot, api.Errno) {
	if base < 0 || base > maxBase {
		return nil, roots.Slot{}, api.ErrArg
	}
	for i := 1; i < len(l); i++ {
		if place(l[i-1].Key) >= place(l[i].Key) {
			return nil, roots.Slot{}, api.ErrArg
		}
	}
	if len(l) > maxOps {
		return nil, roots.Slot{}, api.ErrBig
	}
	b, s := dumped(l, version, base)
	return b, s, api.OK
}

// slowLoad is Load by the chapter's words: it asks for each base, and for each list of items that could stand there, whether Dump of them is what is there.
func slowLoad(b []byte, s roots.Slot) ([]tree.Item, api.Errno) {
	if len(b) < int(s.End) {
		return nil, api.ErrShort
	}
	for base := 0; base <= int(s.End); base++ {
		var l []tree.Item
		for rest := b[base:s.End]; ; {
			leaf, size := leafOf(rest)
			if size == 0 {
				break
			}
			l, rest = append(l, leaf...), rest[size:]
			if len(l) != int(s.Items) {
				continue
			}
			pages, slot, e := slowDump(l, s.Version, base)
			if e == api.OK && slot == s && bytes.Equal(pages, b[base:s.End]) {
				return l, api.OK
			}
		}
	}
	return nil, api.ErrPage
}

// leafOf are the items of something like a leaf that b begins with, and its length, 0 if there is none; that it is one is not asked here.
func leafOf(b []byte) (l []tree.Item, size int) {
	length, n := binary.Uvarint(b)
	if n <= 0 || length < 2 || length > 4096 || len(b) < n+int(length)+4 {
		return nil, 0
	}
	fields := uvarints(b[n : n+int(length)])
	if len(fields) < 2 || fields[0] != 1 || len(fields)%5 != 2 {
		return nil, 0
	}
	for f := fields[2:]; len(f) > 0; f = f[5:] {
		x := tree.Item{Loc: page.Loc{Seg: uint32(f[3]), At: uint32(f[4])}}
		x.Key = key(uint16(f[0]), uint8(f[1]), uint32(f[2]))
		l = append(l, x)
	}
	return l, n + int(length) + 4
}

// uvarints are all the numbers of b, none if it has something else.
func uvarints(b []byte) (l []uint64) {
	for len(b) > 0 {
		x, n := binary.Uvarint(b)
		if n <= 0 {
			return nil
		}
		l, b = append(l, x), b[n:]
	}
	return l
}

// slowEncode is Encode by the chapter's words.
func slowEncode(s roots.Slot) []byte {
	return framed(list(s.Version, uint64(s.At), uint64(s.End), uint64(s.Items)))
}

// slotOf is the slot whose encoding b is, if there is one.
func slotOf(b []byte) (s roots.Slot, ok bool) {
	length, n := binary.Uvarint(b)
	if n <= 0 || length > 4096 || len(b) != n+int(length)+4 {
		return s, false
	}
	l := uvarints(b[n : n+int(length)])
	if len(l) != 4 || max(l[1], l[2], l[3]) > math.MaxUint32 {
		return s, false
	}
	s = roots.Slot{Version: l[0], At: uint32(l[1]), End: uint32(l[2]), Items: uint32(l[3])}
	return s, bytes.Equal(b, slowEncode(s))
}

// slowPick is Pick by the chapter's words.
func slowPick(a, b []byte) (roots.Slot, api.Errno) {
	s, ok := slotOf(a)
	other, also := slotOf(b)
	switch {
	case !ok && !also:
		return roots.Slot{}, api.ErrNone
	case !ok || also && other.Version > s.Version:
		return other, api.OK
	}
	return s, api.OK
}
