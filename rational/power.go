package rational

import (
	"math/bits"

	"faultline/api"
	"faultline/natural"
)

// maxExponent limits the exponents of Power, above and below 0.
const maxExponent = 64

// Power returns a^n (0^0 is 1), ErrRange if n is beyond the limits, or ErrZero for 0 and n below 0.
func Power(a api.Rat, n int) (api.Rat, error) {
	if n < -maxExponent || n > maxExponent {
		return api.Rat{}, api.ErrRange
	}
	a = value(a)
	switch {
	case n == 0:
		return Of(1), nil
	case isZero(a) && n < 0:
		return api.Rat{}, api.ErrZero
	case isZero(a):
		return api.Rat{}, nil
	case n < 0:
		a, n = inverse(a), -n
	}
	return api.Rat{Neg: a.Neg && n%2 == 1, Num: power(a.Num, n), Den: power(a.Den, n)}, nil
}

// power returns a^n, for n above 0. Unlike natural.Power it has no limit for a, as fractions have none.
func power(a []uint32, n int) []uint32 {
	result := natural.Of(1)
	for i := bits.Len(uint(n)) - 1; i >= 0; i-- {
		result = natural.Mul(result, result)
		if n>>i&1 == 1 {
			result = natural.Mul(result, a)
		}
	}
	return result
}
