package linear

import (
	"faultline/api"
	"faultline/natural"
	"faultline/rational"
)

// integer is a whole number; that 0 may be negative too does not matter.
type integer struct {
	neg  bool
	size []uint32
}

// zero reports whether a is 0.
func (a integer) zero() bool {
	return len(a.size) == 0
}

// times returns a * factor.
func (a integer) times(factor []uint32) integer {
	return integer{a.neg, natural.Mul(a.size, factor)}
}

// plus returns a + b.
func (a integer) plus(b integer) integer {
	if a.neg == b.neg {
		return integer{a.neg, natural.Add(a.size, b.size)}
	}
	d := difference(a.size, b.size)
	return integer{d.neg != a.neg, d.size}
}

// minus returns a - b.
func (a integer) minus(b integer) integer {
	return a.plus(integer{!b.neg, b.size})
}

// quotient returns a / divisor, rounded toward 0; the divisor is not 0.
func (a integer) quotient(divisor []uint32) integer {
	return integer{a.neg, quotient(a.size, divisor)}
}

// over returns the fraction a / den; den is not 0.
func (a integer) over(den []uint32) api.Rat {
	x, _ := rational.From(a.neg, a.size, den)
	return x
}

// difference returns a - b.
func difference(a, b []uint32) integer {
	if d, err := natural.Sub(a, b); err == nil {
		return integer{size: d}
	}
	d, _ := natural.Sub(b, a)
	return integer{true, d}
}

// dot returns the sum of the products of the integers in two lists of the same length.
func dot(a, b []integer) integer {
	var plus, minus []uint32
	for i := range a {
		if a[i].neg == b[i].neg {
			plus = addProduct(plus, a[i].size, b[i].size)
		} else {
			minus = addProduct(minus, a[i].size, b[i].size)
		}
	}
	return difference(plus, minus)
}

// addProduct returns sum + a * b in the memory of sum, which makes long sums much faster than new memory would.
func addProduct(sum, a, b []uint32) []uint32 {
	if missing := len(a) + len(b) - len(sum); missing > 0 {
		sum = append(sum, make([]uint32, missing)...)
	}
	for i, word := range a {
		carry := uint64(0)
		for j, factor := range b {
			carry += uint64(word)*uint64(factor) + uint64(sum[i+j])
			sum[i+j] = uint32(carry)
			carry >>= 32
		}
		for j := i + len(b); carry != 0; j++ {
			if j == len(sum) {
				sum = append(sum, 0)
			}
			carry += uint64(sum[j])
			sum[j] = uint32(carry)
			carry >>= 32
		}
	}
	return sum
}

// scaled is a list of fractions with the same denominator, which is not 0.
type scaled struct {
	list []integer
	den  []uint32
}

// scale returns a list of fractions with their least common denominator. Fractions that are not valid count as 0.
func scale(list []api.Rat) scaled {
	s := scaled{make([]integer, len(list)), natural.Of(1)}
	valid := make([]bool, len(list))
	for i, x := range list {
		valid[i] = rational.Sign(x) != 0
		if valid[i] {
			s.den = natural.Mul(s.den, quotient(x.Den, natural.Gcd(x.Den, s.den)))
		}
	}
	for i, x := range list {
		if valid[i] {
			s.list[i] = integer{x.Neg, natural.Mul(x.Num, quotient(s.den, x.Den))}
		}
	}
	return s
}

// integers returns the rows of a matrix, each multiplied by its least common denominator.
func integers(a [][]api.Rat) [][]integer {
	rows := make([][]integer, len(a))
	for i, row := range a {
		rows[i] = scale(row).list
	}
	return rows
}

// quotient returns a / b, rounded down; b is not 0.
func quotient(a, b []uint32) []uint32 {
	q, _, _ := natural.Div(a, b)
	return q
}
