package natural

import (
	"math/bits"
	"slices"

	"faultline/api"
)

// Div returns the quotient of a and b, rounded down, and the remainder, or ErrZero if b is 0.
func Div(a, b []uint32) (q, r []uint32, err error) {
	a, b = trim(a), trim(b)
	switch {
	case len(b) == 0:
		return nil, nil, api.ErrZero
	case len(a) < len(b):
		return nil, slices.Clone(a), nil
	case len(b) == 1:
		q = slices.Clone(a)
		last := divideByWord(q, b[0])
		return trim(q), of64(uint64(last)), nil
	}
	q, r = divideLong(a, b)
	return q, r, nil
}

// divideByWord replaces a by its quotient with the word, which is not 0, and returns the remainder.
func divideByWord(a []uint32, word uint32) uint32 {
	rest := uint64(0)
	for i := len(a) - 1; i >= 0; i-- {
		rest = rest<<32 | uint64(a[i])
		a[i] = uint32(rest / uint64(word))
		rest %= uint64(word)
	}
	return uint32(rest)
}

// divideLong divides a by b, which has at least two words and no more than a, digit by digit as on paper.
func divideLong(a, b []uint32) (q, r []uint32) {
	// With the first bit of the divisor set, the estimates of digits are at most one too great.
	shift := bits.LeadingZeros32(b[len(b)-1])
	divisor := trim(shiftLeft(b, shift))
	rest := shiftLeft(a, shift)
	q = make([]uint32, len(a)-len(b)+1)
	for i := len(q) - 1; i >= 0; i-- {
		part := rest[i : i+len(b)+1]
		q[i] = subtractMultiple(part, divisor, estimate(part, divisor))
	}
	return trim(q), shiftRight(trim(rest), shift)
}

// estimate returns the digit part / divisor, or the digit plus one. It looks at the first three words of part, which
// has one word more than the divisor, and at the first two words of the divisor.
func estimate(part, divisor []uint32) uint32 {
	n := len(divisor)
	first, second := uint64(divisor[n-1]), uint64(divisor[n-2])
	top := uint64(part[n])<<32 | uint64(part[n-1])
	digit := min(top/first, 1<<32-1)
	rest := top - digit*first
	for rest < 1<<32 && digit*second > rest<<32|uint64(part[n-2]) {
		digit--
		rest += first
	}
	return uint32(digit)
}

// subtractMultiple subtracts digit * divisor from part, or one divisor less if part is too small for that, and
// returns the digit that it took.
func subtractMultiple(part, divisor []uint32, digit uint32) uint32 {
	carry, borrow := uint64(0), uint32(0)
	for i, word := range divisor {
		carry += uint64(word) * uint64(digit)
		part[i], borrow = bits.Sub32(part[i], uint32(carry), borrow)
		carry >>= 32
	}
	n := len(divisor)
	part[n], borrow = bits.Sub32(part[n], uint32(carry), borrow)
	if borrow == 0 {
		return digit
	}
	part[n] += addMultiple(part, divisor, 1)
	return digit - 1
}
