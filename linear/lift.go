package linear

import (
	"slices"

	"faultline/api"
	"faultline/natural"
)

// vector is a list of fractions with the same denominator, which is not 0.
type vector struct {
	nums []integer
	den  []uint32
}

// at returns element i of x.
func (x vector) at(i int) api.Rat {
	return x.nums[i].over(x.den)
}

// system is a square matrix that is regular modulo a prime, with its inverse there and the size of its determinant.
type system struct {
	field   field
	rows    [][]integer
	inverse [][]uint64
	det     []uint32
}

func systemOf(f field, rows [][]integer) system {
	return system{f, rows, f.inverse(f.residues(rows)), determinant(rows).size}
}

// solve returns the only x with s x = target.
//
// By Cramer's rule x times the determinant is whole. So it has finitely many digits in base of the prime, if there
// are digits below 0 too, and these are found one after the other, the least significant ones first (Dixon's method).
func (s system) solve(target []integer) vector {
	x := vector{make([]integer, len(target)), s.det}
	rest := make([]integer, len(target))
	for i, b := range target {
		rest[i] = b.times(s.det)
	}
	power, prime := natural.Of(1), natural.Of(int(s.field.prime))
	for slices.ContainsFunc(rest, func(b integer) bool { return !b.zero() }) {
		digits := s.digits(rest)
		for i, row := range s.rows {
			x.nums[i] = x.nums[i].plus(digits[i].times(power))
			rest[i] = rest[i].minus(dot(row, digits)).quotient(prime)
		}
		power = natural.Mul(power, prime)
	}
	return x
}

// digits returns the integers x of which s x and the target are equal modulo the prime, in the middle around 0.
func (s system) digits(target []integer) []integer {
	residues := s.field.residues([][]integer{target})[0]
	x := make([]integer, len(target))
	for i, row := range s.inverse {
		sum := uint64(0)
		for j, factor := range row {
			sum = s.field.mod(sum + factor*residues[j])
		}
		x[i] = integer{size: natural.Of(int(sum))}
		if sum > s.field.prime/2 {
			x[i] = integer{true, natural.Of(int(s.field.prime - sum))}
		}
	}
	return x
}

// solves reports whether rows x = target.
func (x vector) solves(rows [][]integer, target []integer) bool {
	for i, row := range rows {
		if !dot(row, x.nums).minus(target[i].times(x.den)).zero() {
			return false
		}
	}
	return true
}

// ends reports whether the elements of x for pivots behind the given place are 0.
func (x vector) ends(pivots []int, place int) bool {
	for i, pivot := range pivots {
		if pivot > place && !x.nums[i].zero() {
			return false
		}
	}
	return true
}
