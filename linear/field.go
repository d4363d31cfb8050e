package linear

import (
	"math"
	"math/bits"
)

// field computes modulo a prime. The prime is below 2^31, so that products of residues have room in a uint64.
type field struct {
	prime uint64
	// ratio is 2^64 / prime, rounded down: to multiply by it is faster than to divide by the prime.
	ratio uint64
}

func fieldOf(prime uint64) field {
	return field{prime, math.MaxUint64 / prime}
}

// firstField returns the field of the greatest prime below 2^31.
func firstField() field {
	return fieldOf(1<<31 - 1)
}

// next returns the field of the next prime below that of f.
func (f field) next() field {
	n := f.prime - 2
	for !isPrime(n) {
		n -= 2
	}
	return fieldOf(n)
}

// isPrime reports whether n is a prime, for odd n from 11 to 2^31. It is Miller's and Rabin's test; no other numbers
// below 3215031751 pass it with these four bases.
func isPrime(n uint64) bool {
	f := fieldOf(n)
	twos := bits.TrailingZeros64(n - 1)
bases:
	for _, base := range []uint64{2, 3, 5, 7} {
		x := f.power(base, (n-1)>>twos)
		if x == 1 {
			continue
		}
		for range twos {
			if x == n-1 {
				continue bases
			}
			x = f.mul(x, x)
		}
		return false
	}
	return true
}

// mod returns the residue of x.
func (f field) mod(x uint64) uint64 {
	quotient, _ := bits.Mul64(x, f.ratio)
	rest := x - quotient*f.prime
	// The quotient may be too small by one.
	if rest >= f.prime {
		rest -= f.prime
	}
	return rest
}

// mul returns the product of two residues.
func (f field) mul(a, b uint64) uint64 {
	return f.mod(a * b)
}

// sub returns the difference of two residues.
func (f field) sub(a, b uint64) uint64 {
	if a < b {
		a += f.prime
	}
	return a - b
}

// power returns a^n.
func (f field) power(a, n uint64) uint64 {
	result := uint64(1)
	for i := bits.Len64(n) - 1; i >= 0; i-- {
		result = f.mul(result, result)
		if n>>i&1 == 1 {
			result = f.mul(result, a)
		}
	}
	return result
}

// invert returns 1 / a, by Fermat's theorem; a is not 0.
func (f field) invert(a uint64) uint64 {
	return f.power(a, f.prime-2)
}

// residue returns the residue of a.
func (f field) residue(a integer) uint64 {
	rest := uint64(0)
	for i := len(a.size) - 1; i >= 0; i-- {
		rest = f.mod(rest<<32 | uint64(a.size[i]))
	}
	if a.neg {
		return f.sub(0, rest)
	}
	return rest
}

// residues returns the residues of the elements of some rows.
func (f field) residues(rows [][]integer) [][]uint64 {
	result := make([][]uint64, len(rows))
	for i, row := range rows {
		result[i] = make([]uint64, len(row))
		for j, x := range row {
			result[i][j] = f.residue(x)
		}
	}
	return result
}
