package frame

import "escrow/api"

// IsMemo tells whether s is a memo. Characters beyond the bound, and bytes that are none, are left over alike,
// so the work is bounded by MaxMemo and not by the length of s.
func IsMemo(s string) bool {
	for count := 0; count < api.MaxMemo; count++ {
		size := characterSize(s)
		s = s[size:]
	}
	return s == ""
}

// characterSize gives how many bytes the character has that s begins with; 0 if it begins with none.
// It is never more than len(s).
func characterSize(s string) int {
	if s == "" {
		return 0
	}
	first := s[0]
	size := sizeAfter(first)
	if size <= 1 {
		return size
	}
	if len(s) < size {
		return 0
	}
	low := lowestSecond(first)
	high := highestSecond(first)
	if s[1] < low || s[1] > high {
		return 0
	}
	for i := 2; i < size; i++ {
		if s[i] < 0x80 || s[i] > 0xBF {
			return 0
		}
	}
	return size
}

// sizeAfter gives how many bytes a character has that begins with this byte; 0 if none does.
func sizeAfter(first byte) int {
	switch {
	case first < 0x80:
		return 1
	case first < 0xC2:
		// 80 to BF only go on; C0 and C1 would say in two bytes what one byte says.
		return 0
	case first < 0xE0:
		return 2
	case first < 0xF0:
		return 3
	case first < 0xF5:
		return 4
	}
	// F5 and above would say more than the last character, U+10FFFF.
	return 0
}

// lowestSecond shuts out the forms that are longer than they must be.
func lowestSecond(first byte) byte {
	switch first {
	case 0xE0:
		return 0xA0
	case 0xF0:
		return 0x90
	}
	return 0x80
}

// highestSecond shuts out the surrogates, and what is beyond U+10FFFF.
func highestSecond(first byte) byte {
	switch first {
	case 0xED:
		return 0x9F
	case 0xF4:
		return 0x8F
	}
	return 0xBF
}
