package frame_test

import (
	"bytes"
	"hash/crc32"
	"testing"

	"trug/api"
	"trug/frame"
	"trug/vint"
)

// random is a source of numbers that are the same in every run.
type random uint64

func (r *random) next() uint64 {
	*r ^= *r << 13
	*r ^= *r >> 7
	*r ^= *r << 17
	return uint64(*r)
}

func (r *random) bytes(n int) []byte {
	b := make([]byte, n)
	for i := range b {
		b[i] = byte(r.next() >> 24)
	}
	return b
}

// lengths are lengths of contents: those at which a frame's length takes one byte, those at which it takes two, and both limits.
var lengths = []int{0, 1, 2, 3, 10, 126, 127, 128, 129, 255, 256, 300, 1000, 4094, 4095, 4096}

// framed is the frame of b by the chapter's words, without the layers that it is made from.
func framed(b []byte) []byte {
	return summed(append(numbered(uint64(len(b))), b...))
}

// summed is b with its checksum behind it.
func summed(b []byte) []byte {
	sum := crc32.ChecksumIEEE(b)
	return append(bytes.Clone(b), byte(sum), byte(sum>>8), byte(sum>>16), byte(sum>>24))
}

// numbered is the shortest form of n.
func numbered(n uint64) []byte {
	var b []byte
	for ; n > 127; n /= 128 {
		b = append(b, byte(n%128)+128)
	}
	return append(b, byte(n))
}

func concat(parts ...[]byte) []byte {
	return bytes.Join(parts, nil)
}

func flip(b []byte) {
	for i := range b {
		b[i] ^= 0xff
	}
}

// wantFirst tells whether First(b) is a content, a length and an error, and whether it has left b as it was.
func wantFirst(t *testing.T, name string, b, content []byte, size int, e api.Errno) {
	t.Helper()
	before := bytes.Clone(b)
	c, n, f := frame.First(b)
	if !bytes.Equal(c, content) || n != size || f != e {
		t.Errorf("First of %s: %d bytes, %d, %d, not %d bytes, %d, %d", name, len(c), n, f, len(content), size, e)
	}
	if !bytes.Equal(b, before) {
		t.Errorf("First has changed %s", name)
	}
}

// wantScan tells whether Scan(b) is so many contents and an offset, and whether it has left b as it was.
func wantScan(t *testing.T, name string, b []byte, contents [][]byte, offset int) {
	t.Helper()
	before := bytes.Clone(b)
	l, n := frame.Scan(b)
	if n != offset || len(l) != len(contents) {
		t.Errorf("Scan of %s: %d contents, offset %d, not %d, %d", name, len(l), n, len(contents), offset)
		return
	}
	for i := range l {
		if !bytes.Equal(l[i], contents[i]) {
			t.Errorf("Scan of %s: content %d is %x, not %x", name, i, l[i], contents[i])
		}
	}
	if !bytes.Equal(b, before) {
		t.Errorf("Scan has changed %s", name)
	}
}

// P10.1, P10.2: the chapter's example.
func TestExample(t *testing.T) {
	b, e := frame.Wrap([]byte(""))
	if !bytes.Equal(b, []byte{0x00, 0x8d, 0xef, 0x02, 0xd2}) || e != api.OK {
		t.Fatalf("Wrap of nothing: %x, %d", b, e)
	}
	wantFirst(t, "4 bytes of it", b[:4], nil, 0, api.ErrShort)
	wantFirst(t, "all of it", b, nil, 5, api.OK)
}

// P10.1
func TestWrap(t *testing.T) {
	r := random(1)
	for _, n := range lengths {
		for _, content := range [][]byte{make([]byte, n), r.bytes(n), bytes.Repeat([]byte{0xff}, n)} {
			before := bytes.Clone(content)
			b, e := frame.Wrap(content)
			if e != api.OK || !bytes.Equal(b, framed(before)) {
				t.Errorf("Wrap of %d bytes: %d bytes, %d", n, len(b), e)
			}
			if !bytes.Equal(content, before) {
				t.Errorf("Wrap has changed its %d bytes", n)
			}
		}
	}
	if b, e := frame.Wrap(nil); e != api.OK || !bytes.Equal(b, framed(nil)) {
		t.Errorf("Wrap of nil: %x, %d", b, e)
	}
}

// P10.1: how long a frame is where its length takes one byte and where it takes two.
func TestWrapSizes(t *testing.T) {
	for n, size := range map[int]int{0: 5, 1: 6, 127: 132, 128: 134, 4095: 4101, 4096: 4102} {
		if b, _ := frame.Wrap(make([]byte, n)); len(b) != size {
			t.Errorf("Wrap of %d bytes has %d", n, len(b))
		}
	}
}

// P10.1, R3
func TestWrapTooMuch(t *testing.T) {
	for _, n := range []int{4097, 4098, 8192, 16384, 65536, 65537, 1 << 20} {
		if b, e := frame.Wrap(make([]byte, n)); e != api.ErrBig || len(b) != 0 {
			t.Errorf("Wrap of %d bytes: %d bytes, %d", n, len(b), e)
		}
	}
}

// P10.2, P10.4: a frame alone, with other bytes behind it, and each beginning of it.
func TestFirst(t *testing.T) {
	r := random(2)
	for _, n := range lengths {
		content := r.bytes(n)
		f := framed(content)
		wantFirst(t, "a frame", f, content, len(f), api.OK)
		wantFirst(t, "a frame and a byte", concat(f, []byte{0}), content, len(f), api.OK)
		wantFirst(t, "a frame and an unending length", concat(f, []byte{0x80}), content, len(f), api.OK)
		wantFirst(t, "a frame and another one", concat(f, framed([]byte("x"))), content, len(f), api.OK)
		wantFirst(t, "a frame and much", concat(f, r.bytes(5000)), content, len(f), api.OK)
		for k := range f {
			wantFirst(t, "a beginning", f[:k], nil, 0, api.ErrShort)
		}
	}
	wantFirst(t, "nil", nil, nil, 0, api.ErrShort)
	wantFirst(t, "nothing", []byte{}, nil, 0, api.ErrShort)
}

// P10.2: what is behind a slice's end is no part of it, even if a frame's last bytes stand there.
func TestFirstBehindTheEnd(t *testing.T) {
	f := framed([]byte("abc"))
	for k := range f {
		wantFirst(t, "a beginning with the rest behind its end", f[:k:len(f)], nil, 0, api.ErrShort)
	}
}

// P10.2: the error of the length is vint.Get's, and goes ahead of all others.
func TestFirstWrongLength(t *testing.T) {
	ten := bytes.Repeat([]byte{0xff}, 10)
	lengths := []struct {
		b []byte
		e api.Errno
	}{
		{[]byte{0x80, 0x00}, api.ErrForm},
		{[]byte{0x81, 0x00}, api.ErrForm},
		{[]byte{0x83, 0x80, 0x00}, api.ErrForm},
		{[]byte{0xff, 0xff, 0x80, 0x00}, api.ErrForm},
		{[]byte{0x80}, api.ErrShort},
		{[]byte{0x83}, api.ErrShort},
		{[]byte{0xff, 0xff, 0xff}, api.ErrShort},
		{ten[:9], api.ErrShort},
		{ten, api.ErrForm},
		{concat(ten[:9], []byte{2}), api.ErrForm},
		{concat(ten[:9], []byte{0x81}), api.ErrForm},
		{concat(ten[:9], []byte{0x81, 0}), api.ErrForm},
		{concat(ten, []byte{1}), api.ErrForm},
	}
	for _, l := range lengths {
		if _, _, e := vint.Get(l.b); e != l.e {
			t.Errorf("Get(%x): %d", l.b, e)
		}
		wantFirst(t, "a length alone", l.b, nil, 0, l.e)
		if l.e == api.ErrForm {
			wantFirst(t, "a length with a content and a checksum", summed(concat(l.b, []byte("abc"))), nil, 0, api.ErrForm)
			wantFirst(t, "a length with a content and none", concat(l.b, []byte("abcdefg")), nil, 0, api.ErrForm)
			wantFirst(t, "a length with much behind it", concat(l.b, make([]byte, 9000)), nil, 0, api.ErrForm)
		}
	}
}

// P10.2: a length above the limit is ErrForm, whatever stands behind it.
func TestFirstTooLong(t *testing.T) {
	for _, n := range []uint64{4097, 4098, 8191, 8192, 16383, 16384, 65536, 1<<31 - 1, 1 << 31, 1<<32 - 1, 1 << 32, 1<<32 + 3, 1<<63 - 5, 1<<63 - 1, 1 << 63, 1<<63 + 3, 1<<64 - 5, 1<<64 - 4, 1<<64 - 1} {
		length := numbered(n)
		wantFirst(t, "a large length alone", length, nil, 0, api.ErrForm)
		wantFirst(t, "a large length and little", concat(length, []byte("abc")), nil, 0, api.ErrForm)
		wantFirst(t, "a large length and a checksum", summed(concat(length, []byte("abc"))), nil, 0, api.ErrForm)
		wantFirst(t, "a large length and much", concat(length, make([]byte, 20000)), nil, 0, api.ErrForm)
		if n <= 65536 {
			whole := summed(concat(length, make([]byte, n)))
			wantFirst(t, "a frame that is too long", whole, nil, 0, api.ErrForm)
			wantFirst(t, "a part of a frame that is too long", whole[:len(whole)-1], nil, 0, api.ErrForm)
		}
	}
}

// P10.2: where bytes are missing, what is there is not held against a checksum.
func TestFirstTooLittle(t *testing.T) {
	for _, n := range []uint64{1, 2, 3, 100, 127, 128, 4095, 4096} {
		length := numbered(n)
		wantFirst(t, "a length alone", length, nil, 0, api.ErrShort)
		short := summed(concat(length, make([]byte, n-1)))
		wantFirst(t, "a content that lacks a byte", short, nil, 0, api.ErrShort)
		wantFirst(t, "a content without a checksum", concat(length, make([]byte, n)), nil, 0, api.ErrShort)
		wantFirst(t, "a content and 3 other bytes", concat(length, make([]byte, n), []byte{1, 2, 3}), nil, 0, api.ErrShort)
	}
}

// P10.2: the checksum is that of length and content, with its lowest byte first.
func TestFirstWrongSum(t *testing.T) {
	r := random(3)
	for _, n := range lengths {
		content := r.bytes(n)
		f := framed(content)
		end := len(f) - 4
		other := [][]byte{
			concat(f[:end], make([]byte, 4)),
			concat(f[:end], []byte{0xff, 0xff, 0xff, 0xff}),
			concat(f[:end], []byte{f[end+3], f[end+2], f[end+1], f[end]}),
			concat(f[:end], summed(content)[n:]),
		}
		for i, b := range other {
			if bytes.Equal(b, f) {
				continue
			}
			wantFirst(t, "a wrong checksum", b, nil, 0, api.ErrSum)
			wantFirst(t, "a wrong checksum and a frame", concat(b, f), nil, 0, api.ErrSum)
			wantScan(t, "a wrong checksum and a frame", concat(b, f), nil, 0)
			wantScan(t, "a frame and a wrong checksum", concat(f, other[i]), [][]byte{content}, len(f))
		}
	}
}

// P10.3
func TestScan(t *testing.T) {
	a, b, c := framed([]byte("apples")), framed(nil), framed(bytes.Repeat([]byte("c"), 4096))
	contents := [][]byte{[]byte("apples"), nil, bytes.Repeat([]byte("c"), 4096)}
	wantScan(t, "nil", nil, nil, 0)
	wantScan(t, "nothing", []byte{}, nil, 0)
	wantScan(t, "one frame", a, contents[:1], len(a))
	wantScan(t, "an empty frame", b, contents[1:2], len(b))
	wantScan(t, "three frames", concat(a, b, c), contents, len(a)+len(b)+len(c))
	wantScan(t, "one frame thrice", concat(b, b, b), [][]byte{nil, nil, nil}, 3*len(b))
	wantScan(t, "two frames and a beginning of one", concat(a, b, c[:4000]), contents[:2], len(a)+len(b))
	wantScan(t, "two frames and a byte", concat(a, b, []byte{7}), contents[:2], len(a)+len(b))
	torn := bytes.Clone(b)
	torn[4] ^= 1
	wantScan(t, "a torn frame among others", concat(a, torn, c), contents[:1], len(a))
	wantScan(t, "a torn frame ahead of others", concat(torn, a, c), nil, 0)
	wantScan(t, "a frame that lacks a byte among others", concat(a, a[:len(a)-1], c, b), contents[:1], len(a))
	wantScan(t, "a length that is too large among others", concat(a, []byte{0x81, 0x20}, b), contents[:1], len(a))
	wantScan(t, "a length in a longer form among others", concat(a, []byte{0x80, 0x00}, b), contents[:1], len(a))
	wantScan(t, "no frame", []byte("no frame"), nil, 0)
	wantScan(t, "a byte ahead of a frame", concat([]byte{1}, a), nil, 0)
}

// P10.3: what Scan returns is what First returns, one by one.
func TestScanIsFirst(t *testing.T) {
	r := random(4)
	for range 300 {
		var b []byte
		for range r.next() % 6 {
			b = append(b, framed(r.bytes(int(r.next()%200)))...)
		}
		if len(b) > 0 && r.next()%2 == 0 {
			b[r.next()%uint64(len(b))] ^= byte(1 + r.next()%255)
		}
		var contents [][]byte
		offset := 0
		for offset < len(b) {
			content, n, e := frame.First(b[offset:])
			if e != api.OK {
				break
			}
			contents = append(contents, content)
			offset += n
		}
		wantScan(t, "frames of which one may be torn", b, contents, offset)
	}
}

// P10.4: every prefix of several frames.
func TestBack(t *testing.T) {
	r := random(5)
	for _, sizes := range [][]int{{0}, {0, 0, 0}, {1, 0, 127, 128, 3}, {200, 5, 5, 0, 300, 1}, {3, 2000, 0, 4}} {
		var contents [][]byte
		var all []byte
		ends := []int{0}
		for _, n := range sizes {
			content := r.bytes(n)
			f, e := frame.Wrap(content)
			if e != api.OK {
				t.Fatalf("Wrap of %d bytes: %d", n, e)
			}
			contents = append(contents, content)
			all = append(all, f...)
			ends = append(ends, len(all))
		}
		complete := 0
		for k := range len(all) + 1 {
			if complete < len(sizes) && k == ends[complete+1] {
				complete++
			}
			wantScan(t, "a prefix", all[:k], contents[:complete], ends[complete])
		}
	}
}

// P10.4: the longest frames, which a prefix of every length would take long for.
func TestBackLong(t *testing.T) {
	r := random(6)
	var contents [][]byte
	var all []byte
	for range 300 {
		content := r.bytes(4096)
		f, _ := frame.Wrap(content)
		contents = append(contents, content)
		all = append(all, f...)
	}
	wantScan(t, "300 long frames", all, contents, len(all))
	wantScan(t, "300 long frames but a byte", all[:len(all)-1], contents[:299], 299*4102)
}

// P10.5: each byte of a frame other than those of its length, changed in several ways.
func TestTurned(t *testing.T) {
	r := random(7)
	for _, n := range []int{0, 1, 2, 127, 128, 300} {
		content := r.bytes(n)
		f, _ := frame.Wrap(content)
		for i := len(numbered(uint64(n))); i < len(f); i++ {
			for turn := 1; turn < 256; turn++ {
				if n > 2 && turn&(turn-1) != 0 && turn < 254 {
					continue
				}
				f[i] ^= byte(turn)
				wantFirst(t, "a turned frame", f, nil, 0, api.ErrSum)
				wantFirst(t, "a turned frame and a frame", concat(f, framed(content)), nil, 0, api.ErrSum)
				wantScan(t, "a turned frame", f, nil, 0)
				f[i] ^= byte(turn)
			}
		}
	}
}

// P10.5: a long frame, in which fewer ways are tried.
func TestTurnedLong(t *testing.T) {
	r := random(8)
	f, _ := frame.Wrap(r.bytes(4096))
	for i := 2; i < len(f); i += 7 {
		turn := byte(1 + r.next()%255)
		f[i] ^= turn
		wantFirst(t, "a turned long frame", f, nil, 0, api.ErrSum)
		f[i] ^= turn
	}
}

// R6: a frame keeps nothing of the bytes that it was made from, and First and Scan nothing of theirs.
func TestNewMemory(t *testing.T) {
	for _, n := range []int{1, 5, 127, 128, 4096} {
		// Room behind the end, so that an append to what was passed would be seen.
		content := make([]byte, n, n+10)
		f, _ := frame.Wrap(content)
		want := bytes.Clone(f)
		flip(content)
		if !bytes.Equal(f, want) {
			t.Errorf("the frame of %d bytes has changed with them", n)
		}
		flip(f)
		if !bytes.Equal(content, bytes.Repeat([]byte{0xff}, n)) || !bytes.Equal(content[n:cap(content)], make([]byte, 10)) {
			t.Errorf("%d bytes have changed with their frame", n)
		}
		b := bytes.Clone(want)
		c, _, _ := frame.First(b)
		flip(b)
		if !bytes.Equal(c, make([]byte, n)) {
			t.Errorf("a content of %d bytes has changed with its frame", n)
		}
		flip(b)
		flip(c)
		if !bytes.Equal(b, want) {
			t.Errorf("a frame has changed with its content of %d bytes", n)
		}
	}
}

// R6: what is written to a content, or behind it where it has room, reaches neither the frames nor another content.
func TestNewMemoryOfScan(t *testing.T) {
	one, two := []byte("apples"), []byte("pears")
	b := concat(framed(one), framed(two), framed(one))
	want := bytes.Clone(b)
	l, _ := frame.Scan(b)
	flip(b)
	if len(l) != 3 || !bytes.Equal(l[0], one) || !bytes.Equal(l[1], two) || !bytes.Equal(l[2], one) {
		t.Fatalf("contents have changed with their frames: %q", l)
	}
	flip(b)
	flip(l[0][:cap(l[0])])
	if !bytes.Equal(b, want) || !bytes.Equal(l[1], two) || !bytes.Equal(l[2], one) {
		t.Errorf("a content that was changed has changed others: %q", l)
	}
	again, _ := frame.Scan(b)
	if len(again) != 3 || !bytes.Equal(again[0], one) {
		t.Errorf("Scan once more: %q", again)
	}
}

// R1: bytes of all kinds, cut from frames and not; what is accepted is a frame.
func TestAnyBytes(t *testing.T) {
	r := random(9)
	for range 20000 {
		b := r.bytes(int(r.next() % 12))
		if len(b) > 0 && r.next()%2 == 0 {
			b[0] %= 6
		}
		content, n, e := frame.First(b)
		if e != api.OK && (len(content) != 0 || n != 0) {
			t.Errorf("First(%x): %x, %d, %d", b, content, n, e)
		}
		if e == api.OK && !bytes.Equal(b[:n], framed(content)) {
			t.Errorf("First(%x): %x, %d", b, content, n)
		}
		frame.Scan(b)
	}
}
