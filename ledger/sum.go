package ledger

// Sum is the check sum of bytes.
func Sum(data []byte) int {
	// What four zero bits make of a register whose lowest half byte is the place in the array and that is 0 otherwise.
	turns := [16]uint32{
		0x00000000, 0x105ec76f, 0x20bd8ede, 0x30e349b1, 0x417b1dbc, 0x5125dad3, 0x61c69362, 0x7198540d,
		0x82f63b78, 0x92a8fc17, 0xa24bb5a6, 0xb21572c9, 0xc38d26c4, 0xd3d3e1ab, 0xe330a81a, 0xf36e6f75,
	}
	register := ^uint32(0)
	for _, b := range data {
		register ^= uint32(b)
		register = register>>4 ^ turns[register&15]
		register = register>>4 ^ turns[register&15]
	}
	return int(^register)
}
