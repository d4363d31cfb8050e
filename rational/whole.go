package rational

import (
	"math"

	"faultline/api"
	"faultline/natural"
)

// maxParts limits the parts of 1 to which Round rounds.
const maxParts = 1 << 31

// Floor returns the greatest whole number that is at most a.
func Floor(a api.Rat) api.Rat {
	return floor(value(a))
}

func floor(a api.Rat) api.Rat {
	if isZero(a) {
		return api.Rat{}
	}
	whole, rest, _ := natural.Div(a.Num, a.Den)
	if a.Neg && len(rest) > 0 {
		whole = natural.Add(whole, natural.Of(1))
	}
	return lowest(a.Neg, whole, natural.Of(1))
}

// Round returns the greatest multiple of 1/d that is at most a, or ErrRange if d is beyond the limits.
func Round(a api.Rat, d int) (api.Rat, error) {
	if d < 1 || d > maxParts {
		return api.Rat{}, api.ErrRange
	}
	parts := Of(d)
	return product(floor(product(value(a), parts)), inverse(parts)), nil
}

// Int returns a and true if a is whole and an int.
func Int(a api.Rat) (int, bool) {
	a = value(a)
	if isZero(a) {
		return 0, true
	}
	if !isOne(a.Den) {
		return 0, false
	}
	n, ok := natural.Int(a.Num)
	switch {
	case ok && a.Neg:
		return -n, true
	case a.Neg && natural.Cmp(a.Num, magnitude(math.MinInt)) == 0:
		// The least int is the only one whose absolute value is no int.
		return math.MinInt, true
	}
	return n, ok
}
