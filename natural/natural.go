// Package natural computes with natural numbers of any size. It is layer 1: see shared/doc/01-natural.md.
//
// A number is a list of words in base 2^32, the least significant one first. Arguments may end with zeros;
// every function trims them first, so that the rest of the code can rely on the length of a number.
package natural

import (
	"cmp"
	"math/bits"
)

// trim returns a without the zeros at its end; it shares a's memory.
func trim(a []uint32) []uint32 {
	n := len(a)
	for n > 0 && a[n-1] == 0 {
		n--
	}
	return a[:n]
}

// at returns word i of a; the words behind the end are zeros.
func at(a []uint32, i int) uint32 {
	if i < len(a) {
		return a[i]
	}
	return 0
}

// of64 returns n as a list of words.
func of64(n uint64) []uint32 {
	return trim([]uint32{uint32(n), uint32(n >> 32)})
}

// to64 returns the value of a number of at most two words.
func to64(a []uint32) uint64 {
	return uint64(at(a, 1))<<32 | uint64(at(a, 0))
}

// Of returns n, or 0 if n is below 0.
func Of(n int) []uint32 {
	if n < 0 {
		return nil
	}
	return of64(uint64(n))
}

// Int returns a and true if a is less than 2^63.
func Int(a []uint32) (int, bool) {
	if Bits(a) > 63 {
		return 0, false
	}
	return int(to64(a)), true
}

// Bits returns the number of bits of a, 0 for 0.
func Bits(a []uint32) int {
	a = trim(a)
	if len(a) == 0 {
		return 0
	}
	return 32*(len(a)-1) + bits.Len32(a[len(a)-1])
}

// Cmp returns -1, 0 or 1 if a is less than, equal to, or greater than b.
func Cmp(a, b []uint32) int {
	a, b = trim(a), trim(b)
	if len(a) != len(b) {
		return cmp.Compare(len(a), len(b))
	}
	for i := len(a) - 1; i >= 0; i-- {
		if a[i] != b[i] {
			return cmp.Compare(a[i], b[i])
		}
	}
	return 0
}
