// Package crc is layer 1: see shared/doc/01-crc.md.
package crc

// inverted turns a checksum into the register that it came from, and back.
const inverted = 0xffffffff

// effects tells, for each value of a register's lowest four bits, what they leave behind when they are shifted out: a byte takes two steps by it instead of eight.
var effects = [16]uint32{
	0x00000000, 0x1db71064, 0x3b6e20c8, 0x26d930ac,
	0x76dc4190, 0x6b6b51f4, 0x4db26158, 0x5005713c,
	0xedb88320, 0xf00f9344, 0xd6d6a3e8, 0xcb61b38c,
	0x9b64c2b0, 0x86d3d2d4, 0xa00ae278, 0xbdbdf21c,
}

// Sum returns the checksum of b.
func Sum(b []byte) uint32 { return Next(0, b) }

// Next returns the checksum of a sequence whose checksum is sum, continued with b.
func Next(sum uint32, b []byte) uint32 {
	register := sum ^ inverted
	for _, c := range b {
		register = process(register, c)
	}
	return register ^ inverted
}

func process(register uint32, c byte) uint32 {
	return shiftFour(shiftFour(register ^ uint32(c)))
}

func shiftFour(register uint32) uint32 {
	return register>>4 ^ effects[register&15]
}
