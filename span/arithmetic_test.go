package span_test

import (
	"math/big"
	"math/rand/v2"
	"testing"

	"faultline/api"
	"faultline/rational"
	"faultline/span"
)

// single is a function of one span, and the same one of numbers.
type single struct {
	name string
	f    func(a api.Span) api.Span
	want func(x *big.Rat) *big.Rat
}

func singles() []single {
	zero, one := new(big.Rat), big.NewRat(1, 1)
	return []single{
		{"Neg", span.Neg, func(x *big.Rat) *big.Rat { return new(big.Rat).Neg(x) }},
		{"Not", span.Not, func(x *big.Rat) *big.Rat { return new(big.Rat).Sub(one, x) }},
		{"Clip", span.Clip, func(x *big.Rat) *big.Rat { return greatest(zero, least(x, one)) }},
	}
}

// Arguments that are not valid are among the samples: they count as 0..0.
func TestFunctionsOfOne(t *testing.T) {
	for _, f := range singles() {
		for _, s := range samples() {
			arg := laid(s.a)
			got := f.f(arg)
			x, y := f.want(s.lo), f.want(s.hi)
			expect(t, got, least(x, y), greatest(x, y), f.name, s.a)
			untouched(t, f.name, got, arg, s.a)
		}
	}
}

// joint is a function of two spans, the lowest and the highest number that it must return, and the error that it must
// return instead, or 0.
type joint struct {
	name string
	f    func(a, b api.Span) (api.Span, error)
	want func(a, b sample) (lo, hi *big.Rat, err api.Errno)
}

func joints() []joint {
	return []joint{
		{"Add", sure(span.Add), corners((*big.Rat).Add)},
		{"Sub", sure(span.Sub), corners((*big.Rat).Sub)},
		{"Mul", sure(span.Mul), corners((*big.Rat).Mul)},
		{"Div", span.Div, quotients},
		{"Hull", sure(span.Hull), hull},
		{"Meet", span.Meet, meet},
	}
}

// sure adds the error that a function never returns.
func sure(f func(a, b api.Span) api.Span) func(a, b api.Span) (api.Span, error) {
	return func(a, b api.Span) (api.Span, error) { return f(a, b), nil }
}

// corners returns the function that finds the extremes of f at the ends of two spans.
func corners(f func(place, x, y *big.Rat) *big.Rat) func(a, b sample) (lo, hi *big.Rat, err api.Errno) {
	return func(a, b sample) (lo, hi *big.Rat, err api.Errno) {
		var list []*big.Rat
		for _, x := range []*big.Rat{a.lo, a.hi} {
			list = append(list, f(new(big.Rat), x, b.lo), f(new(big.Rat), x, b.hi))
		}
		return least(list...), greatest(list...), 0
	}
}

func quotients(a, b sample) (lo, hi *big.Rat, err api.Errno) {
	if b.contains(new(big.Rat)) {
		return nil, nil, api.ErrZero
	}
	return corners((*big.Rat).Quo)(a, b)
}

func hull(a, b sample) (lo, hi *big.Rat, err api.Errno) {
	return least(a.lo, b.lo), greatest(a.hi, b.hi), 0
}

func meet(a, b sample) (lo, hi *big.Rat, err api.Errno) {
	if a.hi.Cmp(b.lo) < 0 || b.hi.Cmp(a.lo) < 0 {
		return nil, nil, api.ErrInfeasible
	}
	return greatest(a.lo, b.lo), least(a.hi, b.hi), 0
}

// check calls a function with two samples.
func (f joint) check(t *testing.T, x, y sample) {
	t.Helper()
	a, b := laid(x.a), laid(y.a)
	got, err := f.f(a, b)
	f.verify(t, got, err, x, y)
	untouched(t, f.name, got, a, x.a)
	untouched(t, f.name, got, b, y.a)
}

// verify reports a result that is not the one wanted.
func (f joint) verify(t *testing.T, got api.Span, err error, x, y sample) {
	t.Helper()
	lo, hi, fault := f.want(x, y)
	if fault != 0 {
		refused(t, got, err, fault, f.name, x.a, y.a)
	} else {
		succeeded(t, got, err, lo, hi, f.name, x.a, y.a)
	}
}

// Arguments that are not valid are among the samples: they count as 0..0.
func TestFunctionsOfTwo(t *testing.T) {
	for _, f := range joints() {
		for _, x := range samples() {
			for _, y := range samples() {
				f.check(t, x, y)
			}
		}
	}
}

// A span that is passed twice still stands for two numbers that do not depend on each other.
func TestFunctionsOfOneSpanTwice(t *testing.T) {
	for _, f := range joints() {
		for _, x := range samples() {
			arg := laid(x.a)
			got, err := f.f(arg, arg)
			f.verify(t, got, err, x, x)
			untouched(t, f.name, got, arg, x.a)
		}
	}
}

// long returns a number with many digits above and below the line.
func long(r *rand.Rand, words int) *big.Rat {
	num, den := big.NewInt(1), big.NewInt(1)
	for range words {
		num.Add(num.Lsh(num, 32), big.NewInt(int64(r.Uint32())))
		den.Add(den.Lsh(den, 32), big.NewInt(int64(r.Uint32())))
	}
	n := new(big.Rat).SetFrac(num, den)
	if r.IntN(2) == 0 {
		n.Neg(n)
	}
	return n
}

// longSample returns a valid span between two long numbers.
func longSample(t *testing.T, r *rand.Rand, words int) sample {
	t.Helper()
	x, y := long(r, words), long(r, words)
	lo, hi := least(x, y), greatest(x, y)
	return sample{api.Span{Lo: fraction(t, lo.RatString()), Hi: fraction(t, hi.RatString())}, lo, hi, true}
}

func TestLongSpans(t *testing.T) {
	r := rand.New(rand.NewPCG(3, 1))
	for _, words := range []int{3, 20, 100} {
		for range 12 {
			x, y := longSample(t, r, words), longSample(t, r, words/2)
			for _, f := range joints() {
				f.check(t, x, y)
				f.check(t, y, x)
			}
			if !span.Valid(x.a) || span.Valid(api.Span{Lo: x.a.Hi, Hi: x.a.Lo}) {
				t.Errorf("Valid of a span of %d words", words)
			}
		}
	}
}

func TestExamples(t *testing.T) {
	quotient, err := span.Div(of(t, "1", "2"), of(t, "2", "4"))
	if err != nil {
		t.Errorf("Div: %v", err)
	}
	sharedEnd, err := span.Meet(of(t, "0", "1"), of(t, "1", "2"))
	if err != nil {
		t.Errorf("Meet: %v", err)
	}
	for _, c := range []struct {
		got  api.Span
		want string
	}{
		{span.Mul(of(t, "-1", "2"), of(t, "-3", "1")), "-6..3"},
		{span.Not(of(t, "1/4", "1/2")), "1/2..3/4"},
		{quotient, "1/4..1"},
		{sharedEnd, "1..1"},
		{span.Clip(of(t, "-1", "1/2")), "0..1/2"},
		{span.Clip(of(t, "-2", "-1")), "0..0"},
		{span.Clip(of(t, "1/2", "7")), "1/2..1"},
		{span.Clip(of(t, "2", "7")), "1..1"},
		{span.Sub(of(t, "1", "2"), of(t, "1", "2")), "-1..1"},
		{span.Mul(of(t, "-1", "2"), of(t, "-1", "2")), "-2..4"},
		{span.Point(rational.Of(-4)), "-4..-4"},
	} {
		if s := span.Text(c.got); s != c.want {
			t.Errorf("%s instead of %s", s, c.want)
		}
	}
}

func TestDivByZeroAtAnyPlace(t *testing.T) {
	for _, b := range []api.Span{
		{}, of(t, "0", "4"), of(t, "-4", "0"), of(t, "-1/4", "1/4"), {Hi: api.Rat{Neg: true}}, {Lo: rational.Of(2), Hi: rational.Of(1)},
	} {
		for _, a := range []api.Span{{}, of(t, "1", "2"), of(t, "-1", "1")} {
			got, err := span.Div(a, b)
			refused(t, got, err, api.ErrZero, "Div", a, b)
		}
	}
}
