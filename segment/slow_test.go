package segment_test

import (
	"bytes"
	"hash/crc32"
	"math/bits"

	"trug/api"
	"trug/segment"
)

const (
	maxSeq  = 1 << 20
	maxTick = 1 << 30
	maxOps  = 4096
)

// The functions below read this chapter, and those of the layers below it, word by word, so that they owe nothing to the packages.

// numbered is the shortest form of n.
func numbered(n uint64) []byte {
	var b []byte
	for ; n > 127; n /= 128 {
		b = append(b, byte(n%128)+128)
	}
	return append(b, byte(n))
}

// list is the form of some numbers, one behind the other.
func list(numbers ...uint64) []byte {
	var b []byte
	for _, n := range numbers {
		b = append(b, numbered(n)...)
	}
	return b
}

// counted is b behind its length.
func counted(b []byte) []byte {
	return concat(numbered(uint64(len(b))), b)
}

func concat(parts ...[]byte) []byte {
	return bytes.Join(parts, nil)
}

// framed is the frame of some fields, which stand one behind the other.
func framed(fields ...[]byte) []byte {
	b := counted(concat(fields...))
	sum := crc32.ChecksumIEEE(b)
	return append(b, byte(sum), byte(sum>>8), byte(sum>>16), byte(sum>>24))
}

// vector is the form of a vector: how many numbers it has ahead of those that are 0 to its end, and these.
func vector(v api.Vec) []byte {
	count := 16
	for count > 0 && v[count-1] == 0 {
		count--
	}
	b := numbered(uint64(count))
	for _, n := range v[:count] {
		b = append(b, numbered(uint64(n))...)
	}
	return b
}

// encoded is the form of an operation, whether or not it is valid.
func encoded(o api.Op) []byte {
	numbers := list(uint64(o.Dot.Rep), uint64(o.Dot.Seq), uint64(o.Kind), uint64(o.Cart), uint64(o.Item), uint64(o.Qty), uint64(o.Tick))
	return concat(numbers, counted(vector(o.Ctx)))
}

// valid tells whether o is an operation that is valid for 16 replicas.
func valid(o api.Op) bool {
	for _, n := range o.Ctx {
		if n > maxSeq {
			return false
		}
	}
	if o.Dot.Rep > 15 || o.Dot.Seq < 1 || o.Dot.Seq > maxSeq || o.Ctx[o.Dot.Rep] != o.Dot.Seq-1 || o.Tick > maxTick {
		return false
	}
	return o.Kind == 1 && o.Qty >= 1 || o.Kind == 2 || o.Kind == 3 && o.Qty == 0 || (o.Kind == 4 || o.Kind == 5) && o.Item == 0 && o.Qty == 0
}

func headed(id uint64) []byte {
	return framed(numbered(1), numbered(id))
}

func recorded(o api.Op) []byte {
	return framed(numbered(2), counted(encoded(o)))
}

func footed(n int) []byte {
	return framed(numbered(3), numbered(uint64(n)))
}

// number takes the number that b begins with, if it stands there in its shortest form.
func number(b []byte) (n uint64, rest []byte, ok bool) {
	for i, c := range b {
		high, low := bits.Mul64(uint64(c%128), 1<<min(7*i, 63))
		if high != 0 || i > 9 {
			return 0, nil, false
		}
		n += low
		if c < 128 {
			return n, b[i+1:], bytes.Equal(numbered(n), b[:i+1])
		}
	}
	return 0, nil, false
}

// numbersOf are all the numbers that b consists of, nil if it consists of anything else.
func numbersOf(b []byte) []uint64 {
	var l []uint64
	for len(b) > 0 {
		n, rest, ok := number(b)
		if !ok {
			return nil
		}
		l, b = append(l, n), rest
	}
	return l
}

// cut takes the frame that b begins with: its content, and its length.
func cut(b []byte) (content []byte, size int, ok bool) {
	n, rest, ok := number(b)
	if !ok || n > 4096 || uint64(len(rest)) < n+4 {
		return nil, 0, false
	}
	content = rest[:n]
	size = len(b) - len(rest) + int(n) + 4
	return content, size, bytes.Equal(b[:size], framed(content))
}

// opOf is the operation that a record's content holds, if it is one's: what its numbers say, whose form must be that content again.
func opOf(content []byte) (o api.Op, ok bool) {
	// All fields of an operation are numbers or lengths ahead of numbers.
	l := numbersOf(content)
	if len(l) < 11 {
		return o, false
	}
	for i, n := range l[11:] {
		if i < 16 {
			o.Ctx[i] = uint32(n)
		}
	}
	o.Dot = api.Dot{Rep: uint8(l[2]), Seq: uint32(l[3])}
	o.Kind = uint8(l[4])
	o.Cart, o.Item, o.Qty = uint16(l[5]), uint16(l[6]), uint16(l[7])
	o.Tick = uint32(l[8])
	if !valid(o) || !bytes.Equal(content, concat(numbered(2), counted(encoded(o)))) {
		return api.Op{}, false
	}
	return o, true
}

// slowScan is Scan by the chapter's words.
func slowScan(b []byte) (segment.Info, api.Errno) {
	content, size, ok := cut(b)
	l := numbersOf(content)
	if !ok || len(l) != 2 || l[0] != 1 || l[1] >= 1<<32 {
		return segment.Info{}, api.ErrForm
	}
	s := segment.Info{Id: uint32(l[1]), Used: size}
	for {
		content, size, ok := cut(b[s.Used:])
		if !ok {
			return s, api.OK
		}
		o, record := opOf(content)
		count := len(s.Ops)
		switch {
		case record:
			s.Ops, s.At = append(s.Ops, o), append(s.At, s.Used)
			s.Used += size
		case count <= maxOps && bytes.Equal(content, list(3, uint64(count))):
			s.Sealed = true
			s.Used += size
			return s, api.OK
		default:
			return s, api.OK
		}
	}
}
