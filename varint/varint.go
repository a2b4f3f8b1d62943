// Package varint is layer 1: see shared/doc/01-varint.md.
package varint

import "diorama/api"

const (
	group    = 7          // bits of a number in each byte
	more     = 1 << group // the bit that says that another byte follows
	longest  = 10         // bytes of the greatest number
	lastMost = 1          // what is left for the tenth byte: 64 - 9*7 is one bit
)

// Put: a number by groups of seven bits.
func Put(n uint64) string {
	b := make([]byte, 0, longest)
	for n >= more {
		b = append(b, byte(n%more)|more)
		n >>= group
	}
	return string(append(b, byte(n)))
}

// Get: the number that stands at a place, and the place behind it.
func Get(b string, at int) (uint64, int, api.Errno) {
	if at < 0 || at > len(b) {
		return 0, 0, api.ErrArg
	}
	var n uint64
	// The tenth byte ends it at the latest: it is above lastMost, or no other one follows.
	for i := 0; ; i++ {
		if at+i >= len(b) {
			return 0, 0, api.ErrCut
		}
		c := b[at+i]
		if i == longest-1 && c > lastMost {
			return 0, 0, api.ErrLong
		}
		if c == 0 && i > 0 {
			return 0, 0, api.ErrLong
		}
		n |= uint64(c%more) << (group * i)
		if c < more {
			return n, at + i + 1, api.OK
		}
	}
}

// Zig: a signed number without a sign.
func Zig(n int64) uint64 {
	if n < 0 {
		// The complement is -n - 1, which the lowest number has room for, too.
		return uint64(^n)*2 + 1
	}
	return uint64(n) * 2
}

// Zag: a number whose Zig it is.
func Zag(n uint64) int64 {
	if n%2 == 1 {
		return ^int64(n / 2)
	}
	return int64(n / 2)
}

// Size: how many bytes a number takes.
func Size(n uint64) int {
	size := 1
	for n >= more {
		size++
		n >>= group
	}
	return size
}
