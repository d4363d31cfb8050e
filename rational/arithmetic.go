package rational

import (
	"faultline/api"
	"faultline/natural"
)

// Neg returns -a.
func Neg(a api.Rat) api.Rat {
	return own(negative(value(a)))
}

// negative returns -a; it shares a's memory.
func negative(a api.Rat) api.Rat {
	a.Neg = !a.Neg && !isZero(a)
	return a
}

// Abs returns the absolute value of a.
func Abs(a api.Rat) api.Rat {
	a = own(value(a))
	a.Neg = false
	return a
}

// Add returns a + b.
func Add(a, b api.Rat) api.Rat {
	return sum(value(a), value(b))
}

// Sub returns a - b.
func Sub(a, b api.Rat) api.Rat {
	return sum(value(a), negative(value(b)))
}

// sum returns a + b.
//
// To have short numbers, it multiplies by the parts of the denominators that differ only. The common divisors of
// the new numerator and the new denominator are then divisors of the part that the denominators share.
func sum(a, b api.Rat) api.Rat {
	if isZero(a) {
		return own(b)
	}
	if isZero(b) {
		return own(a)
	}
	shared := natural.Gcd(a.Den, b.Den)
	left, right := quotient(a.Den, shared), quotient(b.Den, shared)
	neg, num := signedSum(a.Neg, natural.Mul(a.Num, right), b.Neg, natural.Mul(b.Num, left))
	if len(num) == 0 {
		return api.Rat{}
	}
	divisor := natural.Gcd(num, shared)
	return api.Rat{Neg: neg, Num: quotient(num, divisor), Den: natural.Mul(left, quotient(b.Den, divisor))}
}

// signedSum returns the sum of two numbers with signs, and its sign.
func signedSum(negA bool, a []uint32, negB bool, b []uint32) (bool, []uint32) {
	if negA == negB {
		return negA, natural.Add(a, b)
	}
	if difference, err := natural.Sub(a, b); err == nil {
		return negA, difference
	}
	difference, _ := natural.Sub(b, a)
	return negB, difference
}

// Mul returns a * b.
func Mul(a, b api.Rat) api.Rat {
	return product(value(a), value(b))
}

// product returns a * b. It divides by the common divisors before it multiplies, while the numbers are short.
func product(a, b api.Rat) api.Rat {
	if isZero(a) || isZero(b) {
		return api.Rat{}
	}
	first, second := natural.Gcd(a.Num, b.Den), natural.Gcd(b.Num, a.Den)
	num := natural.Mul(quotient(a.Num, first), quotient(b.Num, second))
	den := natural.Mul(quotient(a.Den, second), quotient(b.Den, first))
	return api.Rat{Neg: a.Neg != b.Neg, Num: num, Den: den}
}

// Div returns a / b, or ErrZero if b is 0.
func Div(a, b api.Rat) (api.Rat, error) {
	a, b = value(a), value(b)
	if isZero(b) {
		return api.Rat{}, api.ErrZero
	}
	return product(a, inverse(b)), nil
}

// inverse returns 1 / a, which is not 0; it shares a's memory.
func inverse(a api.Rat) api.Rat {
	a.Num, a.Den = a.Den, a.Num
	return a
}
