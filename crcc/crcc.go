// Package crcc is layer 2, sums: see shared/doc/02-crcc.md.
package crcc

// nibbles holds what the register of one of 0 to 15 is when four bits have fallen out: so four bits go in at once, with no step of its own for each.
var nibbles = [16]uint32{
	0x00000000, 0x105ec76f, 0x20bd8ede, 0x30e349b1,
	0x417b1dbc, 0x5125dad3, 0x61c69362, 0x7198540d,
	0x82f63b78, 0x92a8fc17, 0xa24bb5a6, 0xb21572c9,
	0xc38d26c4, 0xd3d3e1ab, 0xe330a81a, 0xf36e6f75,
}

// Sum is a text's, Extend goes on with one.
func Sum(s string) uint32 { return Extend(0, s) }

func Extend(sum uint32, s string) uint32 {
	register := ^sum
	for i := range len(s) {
		register ^= uint32(s[i])
		register = register>>4 ^ nibbles[register&15]
		register = register>>4 ^ nibbles[register&15]
	}
	return ^register
}
