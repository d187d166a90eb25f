// Package sum is layer 1: see shared/doc/01-sum.md.
package sum

// What the check sums begin with, and what they are mixed with.
const (
	crcStart = 0xffffffff
	crcMask  = 0xedb88320
	mixStart = 14695981039346656037
	mixTimes = 1099511628211
)

// Crc is the check sum of s, 32 bits long.
func Crc(s string) uint32 {
	c := uint32(crcStart)
	// Places are ranged over, not s itself: that would give runes, not bytes.
	for i := range len(s) {
		c = Step(c, s[i])
	}
	return ^c
}

// Mix is the digest of s, 64 bits long.
func Mix(s string) uint64 {
	m := uint64(mixStart)
	for i := range len(s) {
		m = (m ^ uint64(s[i])) * mixTimes
	}
	return m
}

// Step is c with one more byte taken in.
func Step(c uint32, b byte) uint32 {
	c ^= uint32(b)
	for range 8 {
		gone := c & 1
		c >>= 1
		if gone == 1 {
			c ^= crcMask
		}
	}
	return c
}
