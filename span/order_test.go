package span_test

import (
	"testing"

	"faultline/api"
	"faultline/rational"
	"faultline/span"
)

// Numbers that are not valid are among the ends: they count as 0.
func TestContains(t *testing.T) {
	for _, s := range samples() {
		for _, x := range ends() {
			arg, number := laid(s.a), laidRat(x.x)
			if got := span.Contains(arg, number); got != s.contains(x.n) {
				t.Errorf("Contains(%v, %v) = %v", s.a, x.x, got)
			}
			untouched(t, "Contains", api.Span{}, arg, s.a)
			untouched(t, "Contains", api.Span{}, api.Span{Lo: number, Hi: number}, api.Span{Lo: x.x, Hi: x.x})
		}
	}
}

func TestInside(t *testing.T) {
	for _, x := range samples() {
		for _, y := range samples() {
			a, b := laid(x.a), laid(y.a)
			if got := span.Inside(a, b); got != (y.contains(x.lo) && y.contains(x.hi)) {
				t.Errorf("Inside(%v, %v) = %v", x.a, y.a, got)
			}
			untouched(t, "Inside", api.Span{}, a, x.a)
			untouched(t, "Inside", api.Span{}, b, y.a)
		}
	}
}

func TestSpansWithoutSharedNumbers(t *testing.T) {
	for _, c := range [][2]api.Span{
		{of(t, "0", "1"), of(t, "2", "3")},
		{of(t, "1/3", "1/2"), of(t, "-1/2", "-1/3")},
		{{}, of(t, "1/4294967296", "1")},
		{span.Point(rational.Of(1)), {Lo: rational.Of(1)}},
	} {
		got, err := span.Meet(c[0], c[1])
		refused(t, got, err, api.ErrInfeasible, "Meet", c[0], c[1])
		got, err = span.Meet(c[1], c[0])
		refused(t, got, err, api.ErrInfeasible, "Meet", c[1], c[0])
	}
}

// The hull of two spans is inside each span that contains both; each span inside both is inside their meet.
func TestHullAndMeetAreExtreme(t *testing.T) {
	for _, a := range few(t) {
		for _, b := range few(t) {
			hull := span.Hull(a, b)
			meet, err := span.Meet(a, b)
			for _, c := range few(t) {
				if span.Inside(hull, c) != (span.Inside(a, c) && span.Inside(b, c)) {
					t.Errorf("the hull of %s and %s is %s", span.Text(a), span.Text(b), span.Text(hull))
				}
				if (err == nil && span.Inside(c, meet)) != (span.Inside(c, a) && span.Inside(c, b)) {
					t.Errorf("the meet of %s and %s is %s, %v", span.Text(a), span.Text(b), span.Text(meet), err)
				}
			}
		}
	}
}
