package span_test

import (
	"math/big"
	"testing"

	"faultline/api"
	"faultline/rational"
	"faultline/span"
)

func TestValid(t *testing.T) {
	for _, s := range samples() {
		arg := laid(s.a)
		if span.Valid(arg) != s.valid {
			t.Errorf("Valid(%v) = %v", s.a, !s.valid)
		}
		untouched(t, "Valid", api.Span{}, arg, s.a)
	}
	if !span.Valid(api.Span{}) {
		t.Error("the zero value is not valid")
	}
}

// Ends that are not valid count as 0, here one by one.
func TestMake(t *testing.T) {
	for _, lo := range ends() {
		for _, hi := range ends() {
			a := api.Span{Lo: lo.x, Hi: hi.x}
			arg := laid(a)
			got, err := span.Make(arg.Lo, arg.Hi)
			if lo.n.Cmp(hi.n) > 0 {
				refused(t, got, err, api.ErrRange, "Make", lo.x, hi.x)
			} else {
				succeeded(t, got, err, lo.n, hi.n, "Make", lo.x, hi.x)
			}
			untouched(t, "Make", got, arg, a)
		}
	}
}

func TestMakeOfOneFractionTwice(t *testing.T) {
	for _, x := range ends() {
		arg := laidRat(x.x)
		got, err := span.Make(arg, arg)
		succeeded(t, got, err, x.n, x.n, "Make", x.x, x.x)
		untouched(t, "Make", got, api.Span{Lo: arg, Hi: arg}, api.Span{Lo: x.x, Hi: x.x})
	}
}

func TestPoint(t *testing.T) {
	for _, x := range ends() {
		arg := laidRat(x.x)
		got := span.Point(arg)
		expect(t, got, x.n, x.n, "Point", x.x)
		untouched(t, "Point", got, api.Span{Lo: arg, Hi: arg}, api.Span{Lo: x.x, Hi: x.x})
	}
}

func TestWidth(t *testing.T) {
	for _, s := range samples() {
		arg := laid(s.a)
		got := span.Width(arg)
		if want := new(big.Rat).Sub(s.hi, s.lo); !is(got, want) {
			t.Errorf("Width(%v) = %v, want %v", s.a, got, want)
		}
		untouched(t, "Width", api.Span{Lo: got}, arg, s.a)
	}
}

func TestText(t *testing.T) {
	for _, s := range samples() {
		arg := laid(s.a)
		if got, want := span.Text(arg), s.lo.RatString()+".."+s.hi.RatString(); got != want {
			t.Errorf("Text(%v) = %q, want %q", s.a, got, want)
		}
		untouched(t, "Text", api.Span{}, arg, s.a)
	}
}

// A span with one end that is not valid, or whose ends are exchanged, counts as 0..0, whatever its other end is.
func TestSpansThatAreNotValid(t *testing.T) {
	half := api.Rat{Num: []uint32{2}, Den: []uint32{4}}
	two, three := rational.Of(2), rational.Of(3)
	for _, a := range []api.Span{{Lo: half, Hi: two}, {Lo: rational.Of(-1), Hi: half}, {Lo: three, Hi: two}} {
		if s := span.Text(a); s != "0..0" {
			t.Errorf("Text(%v) = %s", a, s)
		}
		if s := span.Text(span.Hull(a, span.Point(three))); s != "0..3" {
			t.Errorf("the hull of %v and 3..3 is %s", a, s)
		}
		if _, err := span.Div(span.Point(two), a); err != api.ErrZero {
			t.Errorf("2..2 / %v: %v", a, err)
		}
		if span.Contains(a, two) || !span.Contains(a, half) {
			t.Errorf("%v contains 2, or not 0", a)
		}
	}
}
