package rational_test

import (
	"math/big"
	"math/rand/v2"
	"testing"

	"faultline/api"
	"faultline/rational"
)

// lesser and greater choose one of two numbers.
func lesser(_, a, b *big.Rat) *big.Rat {
	if a.Cmp(b) <= 0 {
		return a
	}
	return b
}

func greater(_, a, b *big.Rat) *big.Rat {
	if a.Cmp(b) >= 0 {
		return a
	}
	return b
}

// joint are a function of two fractions and the same one of numbers, whose first argument is the place for the result.
type joint struct {
	name string
	f    func(a, b api.Rat) api.Rat
	want func(place, a, b *big.Rat) *big.Rat
}

func joints() []joint {
	return []joint{
		{"Add", rational.Add, (*big.Rat).Add},
		{"Sub", rational.Sub, (*big.Rat).Sub},
		{"Mul", rational.Mul, (*big.Rat).Mul},
		{"Min", rational.Min, lesser},
		{"Max", rational.Max, greater},
	}
}

// Arguments that are not valid are among the samples: they count as 0.
func TestFunctionsOfTwo(t *testing.T) {
	for _, f := range joints() {
		for _, x := range samples() {
			for _, y := range samples() {
				a, b := lay(x.a), lay(y.a)
				got := f.f(a.a, b.a)
				expect(t, got, f.want(new(big.Rat), x.value, y.value), f.name, x.a, y.a)
				a.untouched(t, f.name, got)
				b.untouched(t, f.name)
			}
			a := lay(x.a)
			got := f.f(a.a, a.a)
			expect(t, got, f.want(new(big.Rat), x.value, x.value), f.name, x.a, x.a)
			a.untouched(t, f.name, got)
		}
	}
}

func TestDiv(t *testing.T) {
	for _, x := range samples() {
		for _, y := range samples() {
			a, b := lay(x.a), lay(y.a)
			got, err := rational.Div(a.a, b.a)
			if y.value.Sign() == 0 {
				refused(t, got, err, api.ErrZero, "Div", x.a, y.a)
			} else {
				succeeded(t, got, err, new(big.Rat).Quo(x.value, y.value), "Div", x.a, y.a)
			}
			a.untouched(t, "Div", got)
			b.untouched(t, "Div")
		}
	}
}

func TestNegAndAbs(t *testing.T) {
	for _, x := range samples() {
		arg := lay(x.a)
		negative, absolute := rational.Neg(arg.a), rational.Abs(arg.a)
		expect(t, negative, new(big.Rat).Neg(x.value), "Neg", x.a)
		expect(t, absolute, new(big.Rat).Abs(x.value), "Abs", x.a)
		arg.untouched(t, "Neg and Abs", negative, absolute)
	}
}

func TestLongFractions(t *testing.T) {
	r := rand.New(rand.NewPCG(2, 2))
	for _, length := range []int{20, 90, 400} {
		shared := long(r, length/2)
		for range 4 {
			x := number(long(r, length), words(new(big.Int).Mul(bigInt(shared), bigInt(long(r, length/3)))))
			y := number(long(r, length), words(new(big.Int).Mul(bigInt(shared), bigInt(long(r, length/4)))))
			y.Neg(y)
			for _, f := range joints() {
				expect(t, f.f(form(x), form(y)), f.want(new(big.Rat), x, y), f.name, length)
			}
			got, err := rational.Div(form(x), form(y))
			succeeded(t, got, err, new(big.Rat).Quo(x, y), "Div", length)
			if n := rational.Cmp(form(x), form(y)); n != x.Cmp(y) {
				t.Errorf("Cmp of %d words = %d", length, n)
			}
		}
	}
}
