package natural

import (
	"math/bits"

	"faultline/api"
)

// The limits of Power.
const (
	maxExponent   = 1024
	maxPowerWords = 1024
	maxPowerBits  = 1 << 17
)

// Mul returns a * b.
func Mul(a, b []uint32) []uint32 {
	a, b = trim(a), trim(b)
	product := make([]uint32, len(a)+len(b))
	for i, word := range a {
		product[i+len(b)] = addMultiple(product[i:], b, word)
	}
	return trim(product)
}

// addMultiple adds a * word to the first words of sum, as many as a has, and returns the carry.
func addMultiple(sum, a []uint32, word uint32) uint32 {
	// The greatest possible value, (2^32-1)^2 + 2*(2^32-1), is 2^64-1: nothing is lost.
	carry := uint64(0)
	for i, factor := range a {
		carry += uint64(factor)*uint64(word) + uint64(sum[i])
		sum[i] = uint32(carry)
		carry >>= 32
	}
	return uint32(carry)
}

// Power returns a^n (0^0 is 1), or ErrRange or ErrLarge if n or a is beyond the limits.
func Power(a []uint32, n int) ([]uint32, error) {
	if n < 0 || n > maxExponent {
		return nil, api.ErrRange
	}
	a = trim(a)
	if len(a) > maxPowerWords || Bits(a)*n > maxPowerBits {
		return nil, api.ErrLarge
	}
	power := []uint32{1}
	for i := bits.Len(uint(n)) - 1; i >= 0; i-- {
		power = Mul(power, power)
		if n>>i&1 == 1 {
			power = Mul(power, a)
		}
	}
	return power, nil
}
