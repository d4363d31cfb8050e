package span

import (
	"faultline/api"
	"faultline/rational"
)

// Hull returns the least span that contains a and b.
func Hull(a, b api.Span) api.Span {
	a, b = value(a), value(b)
	return api.Span{Lo: rational.Min(a.Lo, b.Lo), Hi: rational.Max(a.Hi, b.Hi)}
}

// Meet returns the numbers that are in both spans, or ErrInfeasible if there are none.
func Meet(a, b api.Span) (api.Span, error) {
	a, b = value(a), value(b)
	both := api.Span{Lo: rational.Max(a.Lo, b.Lo), Hi: rational.Min(a.Hi, b.Hi)}
	if rational.Cmp(both.Lo, both.Hi) > 0 {
		return api.Span{}, api.ErrInfeasible
	}
	return both, nil
}

// Clip returns the least span that contains each number in a, moved into 0..1.
func Clip(a api.Span) api.Span {
	a = value(a)
	return api.Span{Lo: clip(a.Lo), Hi: clip(a.Hi)}
}

// clip returns x, moved into 0..1.
func clip(x api.Rat) api.Rat {
	return rational.Max(api.Rat{}, rational.Min(x, rational.Of(1)))
}

// Contains reports whether x is in a.
func Contains(a api.Span, x api.Rat) bool {
	return contains(value(a), x)
}

func contains(a api.Span, x api.Rat) bool {
	return rational.Cmp(a.Lo, x) <= 0 && rational.Cmp(x, a.Hi) <= 0
}

// Inside reports whether all of a is in b.
func Inside(a, b api.Span) bool {
	a, b = value(a), value(b)
	return contains(b, a.Lo) && contains(b, a.Hi)
}
