package span_test

import (
	"slices"
	"testing"

	"faultline/api"
	"faultline/rational"
	"faultline/span"
)

// few returns some valid spans, with all signs at their ends.
func few(t *testing.T) []api.Span {
	t.Helper()
	list := []string{"-2", "-1/2", "0", "1/3", "1", "3"}
	var spans []api.Span
	for i, lo := range list {
		for _, hi := range list[i:] {
			spans = append(spans, of(t, lo, hi))
		}
	}
	return spans
}

// within returns numbers that are in a span: its ends first, then some between them.
func within(t *testing.T, a api.Span) []api.Rat {
	t.Helper()
	list := []api.Rat{a.Lo, a.Hi}
	for _, s := range []string{"1/7", "1/2", "9/10"} {
		list = append(list, rational.Add(a.Lo, rational.Mul(fraction(t, s), rational.Sub(a.Hi, a.Lo))))
	}
	for _, x := range []api.Rat{{}, rational.Of(1)} {
		if rational.Cmp(a.Lo, x) <= 0 && rational.Cmp(x, a.Hi) <= 0 {
			list = append(list, x)
		}
	}
	return list
}

// law is a function of two spans, and the same one of two fractions; a function of one span ignores the other one.
type law struct {
	name string
	f    func(a, b api.Span) (api.Span, error)
	of   func(x, y api.Rat) (api.Rat, error)
}

func laws() []law {
	one := rational.Of(1)
	return []law{
		{"Neg", alone(span.Neg), certain(func(x, _ api.Rat) api.Rat { return rational.Neg(x) })},
		{"Not", alone(span.Not), certain(func(x, _ api.Rat) api.Rat { return rational.Sub(one, x) })},
		{"Clip", alone(span.Clip), certain(func(x, _ api.Rat) api.Rat { return rational.Min(one, rational.Max(x, api.Rat{})) })},
		{"Add", sure(span.Add), certain(rational.Add)},
		{"Sub", sure(span.Sub), certain(rational.Sub)},
		{"Mul", sure(span.Mul), certain(rational.Mul)},
		{"Div", span.Div, rational.Div},
	}
}

// alone makes a function of one span a function of two spans.
func alone(f func(a api.Span) api.Span) func(a, b api.Span) (api.Span, error) {
	return func(a, _ api.Span) (api.Span, error) { return f(a), nil }
}

// certain adds the error that a function never returns.
func certain(f func(x, y api.Rat) api.Rat) func(x, y api.Rat) (api.Rat, error) {
	return func(x, y api.Rat) (api.Rat, error) { return f(x, y), nil }
}

// results returns the results for all pairs of some numbers.
func (l law) results(t *testing.T, xs, ys []api.Rat) []api.Rat {
	t.Helper()
	var list []api.Rat
	for _, x := range xs {
		for _, y := range ys {
			z, err := l.of(x, y)
			if err != nil {
				t.Fatalf("%s of %v, %v: %v", l.name, x, y, err)
			}
			list = append(list, z)
		}
	}
	return list
}

// TestResultsContainAllNumbers checks promise P3.2.
func TestResultsContainAllNumbers(t *testing.T) {
	for _, l := range laws() {
		for _, a := range few(t) {
			for _, b := range few(t) {
				got, err := l.f(a, b)
				if (err != nil) != (l.name == "Div" && span.Contains(b, api.Rat{})) {
					t.Errorf("%s(%s, %s): %v", l.name, span.Text(a), span.Text(b), err)
				}
				if err != nil {
					continue
				}
				for _, z := range l.results(t, within(t, a), within(t, b)) {
					if !span.Contains(got, z) {
						t.Errorf("%s(%s, %s) = %s does not contain %s", l.name, span.Text(a), span.Text(b), span.Text(got), rational.Text(z))
					}
				}
				extremes := l.results(t, []api.Rat{a.Lo, a.Hi}, []api.Rat{b.Lo, b.Hi})
				if !attained(got, extremes) {
					t.Errorf("%s(%s, %s) = %s: the ends are not attained", l.name, span.Text(a), span.Text(b), span.Text(got))
				}
			}
		}
	}
}

// attained reports whether both ends of a span are in the list.
func attained(a api.Span, list []api.Rat) bool {
	return slices.ContainsFunc(list, func(x api.Rat) bool { return rational.Cmp(x, a.Lo) == 0 }) &&
		slices.ContainsFunc(list, func(x api.Rat) bool { return rational.Cmp(x, a.Hi) == 0 })
}

// nested returns the pairs of some spans whose first one is inside the second one, by their ends.
func nested(t *testing.T) [][2]api.Span {
	t.Helper()
	var list [][2]api.Span
	for _, inner := range few(t) {
		for _, outer := range few(t) {
			if rational.Cmp(outer.Lo, inner.Lo) <= 0 && rational.Cmp(inner.Hi, outer.Hi) <= 0 {
				list = append(list, [2]api.Span{inner, outer})
			}
		}
	}
	return list
}

// TestInnerSpansGiveInnerResults checks promise P3.3. Where the outer spans have a result of Div, so have the inner
// ones; where the inner spans have numbers in common, so have the outer ones.
func TestInnerSpansGiveInnerResults(t *testing.T) {
	functions := append(laws(), law{name: "Hull", f: sure(span.Hull)}, law{name: "Meet", f: span.Meet})
	pairs := nested(t)
	for _, l := range functions {
		for _, a := range pairs {
			for _, b := range pairs {
				inner, errInner := l.f(a[0], b[0])
				outer, errOuter := l.f(a[1], b[1])
				if (l.name != "Meet" && errInner != nil && errOuter == nil) || (l.name == "Meet" && errInner == nil && errOuter != nil) {
					t.Errorf("%s of inner and outer spans: %v, %v", l.name, errInner, errOuter)
				}
				if errInner == nil && errOuter == nil && !span.Inside(inner, outer) {
					t.Errorf("%s: %s is not inside %s", l.name, span.Text(inner), span.Text(outer))
				}
			}
		}
	}
	for _, a := range pairs {
		if rational.Cmp(span.Width(a[0]), span.Width(a[1])) > 0 {
			t.Errorf("the width of %s is greater than that of %s", span.Text(a[0]), span.Text(a[1]))
		}
	}
}
