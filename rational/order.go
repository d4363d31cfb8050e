package rational

import (
	"cmp"

	"faultline/api"
	"faultline/natural"
)

// Sign returns -1, 0 or 1 if a is less than, equal to, or greater than 0.
func Sign(a api.Rat) int {
	return sign(value(a))
}

func sign(a api.Rat) int {
	switch {
	case isZero(a):
		return 0
	case a.Neg:
		return -1
	}
	return 1
}

// Cmp returns -1, 0 or 1 if a is less than, equal to, or greater than b.
func Cmp(a, b api.Rat) int {
	return compare(value(a), value(b))
}

func compare(a, b api.Rat) int {
	if sign(a) != sign(b) {
		return cmp.Compare(sign(a), sign(b))
	}
	return sign(a) * natural.Cmp(natural.Mul(a.Num, b.Den), natural.Mul(b.Num, a.Den))
}

// Min returns the lesser one of a and b.
func Min(a, b api.Rat) api.Rat {
	a, b = value(a), value(b)
	if compare(a, b) > 0 {
		return own(b)
	}
	return own(a)
}

// Max returns the greater one of a and b.
func Max(a, b api.Rat) api.Rat {
	a, b = value(a), value(b)
	if compare(a, b) < 0 {
		return own(b)
	}
	return own(a)
}

// Prob reports whether a is valid and from 0 to 1.
func Prob(a api.Rat) bool {
	return Valid(a) && !a.Neg && natural.Cmp(a.Num, a.Den) <= 0
}
