// Package frame: the checksum, and how a message becomes a frame and a frame a message.
package frame

// polynomial is that of CRC-32 with its bits turned round, since bits are taken from the low end.
const polynomial = 0xEDB88320

// Sum gives the checksum CRC-32 of s.
func Sum(s string) uint32 {
	sum := ^uint32(0)
	for i := 0; i < len(s); i++ {
		sum = shiftOut(sum ^ uint32(s[i]))
	}
	return ^sum
}

// shiftOut takes the lowest eight bits out of a sum.
func shiftOut(sum uint32) uint32 {
	for bit := 0; bit < 8; bit++ {
		fell := sum & 1
		sum = sum >> 1
		if fell == 1 {
			sum = sum ^ polynomial
		}
	}
	return sum
}
