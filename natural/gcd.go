package natural

import (
	"math/bits"
	"slices"
)

// maxFactor bounds the factors of steps: the sum of two of their products with words fits into an int64.
const maxFactor = 1 << 30

// steps is the effect of some steps of Euclid's algorithm: they lead from x and y to a*x + b*y and c*x + d*y.
type steps struct{ a, b, c, d int64 }

// Gcd returns the greatest common divisor of a and b; that of a and 0 is a.
//
// Fractions are reduced all the time, so this function is Lehmer's: as long as the leading bits of two long numbers
// determine Euclid's quotients, many of his steps are made at once.
func Gcd(a, b []uint32) []uint32 {
	x, y := slices.Clone(trim(a)), slices.Clone(trim(b))
	if Cmp(x, y) < 0 {
		x, y = y, x
	}
	for len(y) > 2 {
		s := leadingSteps(x, y)
		if s.b == 0 {
			_, rest := divideLong(x, y)
			x, y = y, rest
		} else {
			x, y = combine(s.a, s.b, x, y), combine(s.c, s.d, x, y)
		}
	}
	if len(y) == 0 {
		return x
	}
	if len(x) > 2 {
		_, rest, _ := Div(x, y)
		x, y = y, rest
	}
	return of64(gcd64(to64(x), to64(y)))
}

// gcd64 is Euclid's algorithm.
func gcd64(x, y uint64) uint64 {
	for y != 0 {
		x, y = y, x%y
	}
	return x
}

// leadingSteps returns those first steps of Euclid's algorithm for x and y whose quotients the leading bits
// determine: x is at least y, and has at least three words.
func leadingSteps(x, y []uint32) steps {
	shift := bits.LeadingZeros32(x[len(x)-1])
	p, q := leading(x, len(x), shift), leading(y, len(x), shift)
	s := steps{1, 0, 0, 1}
	// The exact quotient lies between (p + s.a) / (q + s.c) and (p + s.b) / (q + s.d).
	for q+s.c != 0 && q+s.d != 0 {
		quotient := (p + s.a) / (q + s.c)
		if quotient != (p+s.b)/(q+s.d) || quotient > maxFactor {
			break
		}
		next := steps{s.c, s.d, s.a - quotient*s.c, s.b - quotient*s.d}
		if !small(next.c) || !small(next.d) {
			break
		}
		s = next
		p, q = q, p-quotient*q
	}
	return s
}

// small reports whether a factor is within its bound.
func small(factor int64) bool {
	return -maxFactor <= factor && factor <= maxFactor
}

// leading returns the 62 bits of a that begin at the bit behind the first shift bits of its word n - 1.
func leading(a []uint32, n, shift int) int64 {
	top := uint64(at(a, n-1))<<32 | uint64(at(a, n-2))
	below := uint64(at(a, n-3)) << shift >> 32
	return int64((top<<shift | below) >> 2)
}

// combine returns s*x + t*y, which is not below 0 and has no more words than x.
func combine(s, t int64, x, y []uint32) []uint32 {
	sum := make([]uint32, len(x))
	carry := int64(0)
	for i, word := range x {
		carry += s*int64(word) + t*int64(at(y, i))
		sum[i] = uint32(carry)
		carry >>= 32
	}
	return trim(sum)
}
