package crc_test

import (
	"bytes"
	"testing"

	"trug/crc"
)

// slowProcess does what the chapter's section Words says, bit by bit, so that it owes nothing to the table.
func slowProcess(register uint32, c byte) uint32 {
	register ^= uint32(c)
	for range 8 {
		if register&1 == 1 {
			register = register>>1 ^ 0xedb88320
		} else {
			register >>= 1
		}
	}
	return register
}

func slowNext(sum uint32, b []byte) uint32 {
	register := sum ^ 0xffffffff
	for _, c := range b {
		register = slowProcess(register, c)
	}
	return register ^ 0xffffffff
}

// sequence makes n bytes that look irregular, unlike ones for each seed.
func sequence(n int, seed uint32) []byte {
	b := make([]byte, n)
	x := seed*2654435761 + 12345
	for i := range b {
		x = x*1664525 + 1013904223
		b[i] = byte(x >> 24)
	}
	return b
}

// starts are checksums to continue from: the edges, and each single bit.
func starts() []uint32 {
	l := []uint32{0, 0xffffffff, 0xcbf43926, 0xedb88320, 0x12345678}
	for i := range 32 {
		l = append(l, 1<<i, ^uint32(1<<i))
	}
	return l
}

var lengths = []int{0, 1, 2, 3, 4, 5, 7, 8, 9, 15, 16, 17, 31, 64, 100, 255, 256, 257, 1000, 65536}

// P1.1
func TestSumOfKnownTexts(t *testing.T) {
	for _, c := range []struct {
		text string
		want uint32
	}{
		{"", 0},
		{"a", 0xe8b7be43},
		{"abc", 0x352441c2},
		{"123456789", 0xcbf43926},
		{"The quick brown fox jumps over the lazy dog", 0x414fa339},
		{"\x00", 0xd202ef8d},
		{"\x00\x00\x00\x00", 0x2144df1c},
		{"\xff\xff\xff\xff", 0xffffffff},
	} {
		if got := crc.Sum([]byte(c.text)); got != c.want {
			t.Errorf("Sum(%q) = %08x, want %08x", c.text, got, c.want)
		}
	}
}

// P1.1, R8
func TestSumOfNothing(t *testing.T) {
	for _, b := range [][]byte{nil, {}, make([]byte, 0, 8), []byte("abc")[3:]} {
		if got := crc.Sum(b); got != 0 {
			t.Errorf("Sum(%#v) = %08x, want 0", b, got)
		}
	}
}

// P1.1
func TestSumAgainstWords(t *testing.T) {
	for c := range 256 {
		b := []byte{byte(c)}
		if got, want := crc.Sum(b), slowNext(0, b); got != want {
			t.Errorf("Sum(%x) = %08x, want %08x", b, got, want)
		}
	}
	for _, n := range lengths {
		b := sequence(n, uint32(n))
		if got, want := crc.Sum(b), slowNext(0, b); got != want {
			t.Errorf("Sum of %d bytes = %08x, want %08x", n, got, want)
		}
	}
}

// P1.2
func TestNextAgainstWords(t *testing.T) {
	for _, sum := range starts() {
		for c := range 256 {
			b := []byte{byte(c)}
			if got, want := crc.Next(sum, b), slowNext(sum, b); got != want {
				t.Fatalf("Next(%08x, %x) = %08x, want %08x", sum, b, got, want)
			}
		}
		for _, n := range lengths {
			b := sequence(n, sum)
			if got, want := crc.Next(sum, b), slowNext(sum, b); got != want {
				t.Fatalf("Next(%08x, %d bytes) = %08x, want %08x", sum, n, got, want)
			}
		}
	}
}

// P1.2
func TestNextFromZeroIsSum(t *testing.T) {
	for _, n := range lengths {
		b := sequence(n, 3)
		if got, want := crc.Next(0, b), crc.Sum(b); got != want {
			t.Errorf("Next(0, %d bytes) = %08x, Sum = %08x", n, got, want)
		}
	}
	if got := crc.Next(0, []byte("123456789")); got != 0xcbf43926 {
		t.Errorf("Next(0, 123456789) = %08x", got)
	}
}

// P1.2, R8
func TestNextWithNothing(t *testing.T) {
	for _, sum := range starts() {
		if got := crc.Next(sum, nil); got != sum {
			t.Errorf("Next(%08x, nil) = %08x", sum, got)
		}
		if got := crc.Next(sum, []byte{}); got != sum {
			t.Errorf("Next(%08x, empty) = %08x", sum, got)
		}
	}
}

// P1.3
func TestPieces(t *testing.T) {
	whole := map[string][]byte{
		"digits":    []byte("123456789"),
		"zeros":     make([]byte, 40),
		"ones":      bytes.Repeat([]byte{0xff}, 40),
		"irregular": sequence(300, 7),
	}
	for name, b := range whole {
		want := crc.Sum(b)
		for k := range len(b) + 1 {
			if got := crc.Next(crc.Sum(b[:k]), b[k:]); got != want {
				t.Errorf("%s split at %d: %08x, want %08x", name, k, got, want)
			}
		}
	}
}

// P1.3
func TestManyPieces(t *testing.T) {
	b := sequence(120, 8)
	for size := 1; size <= len(b); size++ {
		var sum uint32
		for at := 0; at < len(b); at += size {
			sum = crc.Next(sum, b[at:min(at+size, len(b))])
		}
		if want := crc.Sum(b); sum != want {
			t.Errorf("pieces of %d bytes: %08x, want %08x", size, sum, want)
		}
	}
}

// P1.4
func TestThree(t *testing.T) {
	for _, n := range lengths {
		for seed := range uint32(8) {
			a, b, c := sequence(n, 3*seed), sequence(n, 3*seed+1), sequence(n, 3*seed+2)
			checkThree(t, a, b, c)
		}
		a := sequence(n, 99)
		checkThree(t, a, a, a)
		checkThree(t, a, a, make([]byte, n))
		checkThree(t, make([]byte, n), bytes.Repeat([]byte{0xff}, n), a)
	}
}

func checkThree(t *testing.T, a, b, c []byte) {
	t.Helper()
	x := make([]byte, len(a))
	for i := range x {
		x[i] = a[i] ^ b[i] ^ c[i]
	}
	if got, want := crc.Sum(a)^crc.Sum(b)^crc.Sum(c), crc.Sum(x); got != want {
		t.Errorf("three of %d bytes: %08x, want %08x", len(a), got, want)
	}
}

// P1.5
func TestTurned(t *testing.T) {
	for _, n := range []int{1, 2, 3, 4, 5, 9, 16, 64, 200} {
		for _, b := range [][]byte{make([]byte, n), bytes.Repeat([]byte{0xff}, n), sequence(n, uint32(n))} {
			checkTurned(t, b)
		}
	}
}

func checkTurned(t *testing.T, b []byte) {
	t.Helper()
	was := crc.Sum(b)
	for i := range b {
		for by := 1; by < 256; by++ {
			b[i] ^= byte(by)
			if crc.Sum(b) == was {
				t.Errorf("byte %d of %d turned by %02x: the checksum stays %08x", i, len(b), by, was)
			}
			b[i] ^= byte(by)
		}
	}
}

// R4, R6
func TestPure(t *testing.T) {
	b := sequence(50, 11)
	kept := bytes.Clone(b)
	sum, next := crc.Sum(b), crc.Next(0x12345678, b)
	crc.Sum([]byte("another"))
	crc.Next(5, []byte("another"))
	if crc.Sum(b) != sum || crc.Next(0x12345678, b) != next {
		t.Error("the same arguments gave another checksum")
	}
	if !bytes.Equal(b, kept) {
		t.Error("the argument was modified")
	}
}
