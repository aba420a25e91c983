// Package digits: numbers as bytes, the high byte first, as frames and logs hold them.
package digits

// Two gives the bytes of a number of 16 bits.
func Two(n uint16) string {
	return string([]byte{byte(n >> 8), byte(n)})
}

// Four gives the bytes of a number of 32 bits.
func Four(n uint32) string {
	return string([]byte{byte(n >> 24), byte(n >> 16), byte(n >> 8), byte(n)})
}

// Eight gives the bytes of a number of 64 bits.
func Eight(n uint64) string {
	high := Four(uint32(n >> 32))
	low := Four(uint32(n))
	return high + low
}

// Number gives the number that at most eight bytes say.
func Number(s string) uint64 {
	n := uint64(0)
	for i := 0; i < len(s); i++ {
		n = n<<8 | uint64(s[i])
	}
	return n
}
