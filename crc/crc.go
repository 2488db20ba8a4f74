// Package crc is layer 1: a check of bytes, CRC-32C.
package crc

// poly is the polynomial of CRC-32C, its lowest bit the highest one.
const poly = 0x82f63b78

// tail is how many bytes a check has.
const tail = 4

// Of is the check of bytes.
func Of(b string) uint32 { return On(0, b) }

// On is the check of bytes behind others, of which it was c.
func On(c uint32, b string) uint32 {
	t := halves()
	c = ^c
	for i := range len(b) {
		c ^= uint32(b[i])
		c = c>>4 ^ t[c&15]
		c = c>>4 ^ t[c&15]
	}
	return ^c
}

// halves tells of each half of a byte what its four bits come to.
func halves() [16]uint32 {
	var t [16]uint32
	for i := range t {
		c := uint32(i)
		for range 4 {
			low := c & 1
			c >>= 1
			if low == 1 {
				c ^= poly
			}
		}
		t[i] = c
	}
	return t
}

// Tail is the check as bytes, the lowest first.
func Tail(b string) string {
	c := Of(b)
	return string([]byte{byte(c), byte(c >> 8), byte(c >> 16), byte(c >> 24)})
}

// Good is bytes without their check, if it is right.
func Good(s string) (string, bool) {
	n := len(s) - tail
	if n < 0 || s[n:] != Tail(s[:n]) {
		return "", false
	}
	return s[:n], true
}
