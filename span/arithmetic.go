package span

import (
	"faultline/api"
	"faultline/rational"
)

// Neg returns the span of -x for all x in a.
func Neg(a api.Span) api.Span {
	a = value(a)
	return api.Span{Lo: rational.Neg(a.Hi), Hi: rational.Neg(a.Lo)}
}

// Not returns the span of 1 - x for all x in a: of the complement, if a contains a probability.
func Not(a api.Span) api.Span {
	a = value(a)
	one := rational.Of(1)
	return api.Span{Lo: rational.Sub(one, a.Hi), Hi: rational.Sub(one, a.Lo)}
}

// Add returns the span of x + y for all x in a and y in b.
func Add(a, b api.Span) api.Span {
	a, b = value(a), value(b)
	return api.Span{Lo: rational.Add(a.Lo, b.Lo), Hi: rational.Add(a.Hi, b.Hi)}
}

// Sub returns the span of x - y for all x in a and y in b. These are independent, also if a and b are the same span.
func Sub(a, b api.Span) api.Span {
	a, b = value(a), value(b)
	return api.Span{Lo: rational.Sub(a.Lo, b.Hi), Hi: rational.Sub(a.Hi, b.Lo)}
}

// Mul returns the least span that contains x * y for all x in a and y in b.
func Mul(a, b api.Span) api.Span {
	return product(value(a), value(b))
}

// product returns the span of x * y for all x in a and y in b. While one factor stays, the product only rises or only
// falls with the other one, so that the extremes are among the products of the ends.
func product(a, b api.Span) api.Span {
	return around(
		rational.Mul(a.Lo, b.Lo), rational.Mul(a.Lo, b.Hi),
		rational.Mul(a.Hi, b.Lo), rational.Mul(a.Hi, b.Hi),
	)
}

// around returns the least span that contains all of the numbers.
func around(x api.Rat, others ...api.Rat) api.Span {
	all := Point(x)
	for _, other := range others {
		all.Lo, all.Hi = rational.Min(all.Lo, other), rational.Max(all.Hi, other)
	}
	return all
}

// Div returns the least span that contains x / y for all x in a and y in b, or ErrZero if 0 is in b.
func Div(a, b api.Span) (api.Span, error) {
	a, b = value(a), value(b)
	if contains(b, api.Rat{}) {
		return api.Span{}, api.ErrZero
	}
	return product(a, inverse(b)), nil
}

// inverse returns the span of 1 / x for all x in a, which does not contain 0: so the signs in it are the same, and the
// greatest number has the least inverse.
func inverse(a api.Span) api.Span {
	one := rational.Of(1)
	lo, _ := rational.Div(one, a.Hi)
	hi, _ := rational.Div(one, a.Lo)
	return api.Span{Lo: lo, Hi: hi}
}
