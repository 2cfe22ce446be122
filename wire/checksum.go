package wire

// The Castagnoli polynomial, its highest power in the lowest bit.
const castagnoli = 0x82F63B78

func Checksum(b []byte) uint32 {
	table := remainders()
	sum := ^uint32(0)
	for _, c := range b {
		sum = table[byte(sum)^c] ^ sum>>8
	}
	return ^sum
}

// remainders returns the remainder of each byte. The remainder of an exclusive
// or is the exclusive or of the remainders, so that only the bytes of one bit
// need a division.
func remainders() [256]uint32 {
	var table [256]uint32
	word := uint32(1)
	for bit := 128; bit > 0; bit /= 2 {
		word = divide(word)
		for higher := 0; higher < len(table); higher += 2 * bit {
			table[higher^bit] = table[higher] ^ word
		}
	}
	return table
}

// divide shifts the lowest bit out of a remainder.
func divide(word uint32) uint32 {
	if word&1 == 0 {
		return word >> 1
	}
	return word>>1 ^ castagnoli
}
