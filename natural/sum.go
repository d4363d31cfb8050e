package natural

import (
	"math/bits"

	"faultline/api"
)

// Add returns a + b.
func Add(a, b []uint32) []uint32 {
	a, b = trim(a), trim(b)
	if len(a) < len(b) {
		a, b = b, a
	}
	sum := make([]uint32, len(a)+1)
	carry := uint32(0)
	for i, word := range a {
		sum[i], carry = bits.Add32(word, at(b, i), carry)
	}
	sum[len(a)] = carry
	return trim(sum)
}

// Sub returns a - b, or ErrRange if a is less than b.
func Sub(a, b []uint32) ([]uint32, error) {
	if Cmp(a, b) < 0 {
		return nil, api.ErrRange
	}
	a = trim(a)
	difference := make([]uint32, len(a))
	borrow := uint32(0)
	for i, word := range a {
		difference[i], borrow = bits.Sub32(word, at(b, i), borrow)
	}
	return trim(difference), nil
}
