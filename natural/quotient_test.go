package natural_test

import (
	"math/big"
	"slices"
	"testing"

	"faultline/api"
	"faultline/natural"
)

// divides compares Div with the quotient and the remainder, and with P1.3.
func divides(t *testing.T, a, b []uint32) {
	t.Helper()
	p, q := lay(a, 1), lay(b, 2)
	quotient, rest, err := natural.Div(p.words, q.words)
	if err != nil {
		t.Errorf("Div(%v, %v): %v", a, b, err)
		return
	}
	wantQuotient, wantRest := new(big.Int).QuoRem(toBig(a), toBig(b), new(big.Int))
	expect(t, quotient, wantQuotient, "the quotient Div", a, b)
	expect(t, rest, wantRest, "the remainder Div", a, b)
	if natural.Cmp(natural.Add(natural.Mul(quotient, b), rest), a) != 0 || natural.Cmp(rest, b) >= 0 {
		t.Errorf("Div(%v, %v) = %v, %v", a, b, quotient, rest)
	}
	p.untouched(t, "Div", quotient)
	expect(t, rest, wantRest, "the remainder, with the quotient overwritten, of Div", a, b)
	p.untouched(t, "Div", rest)
	q.untouched(t, "Div")
}

func TestDiv(t *testing.T) {
	list := numbers(10)
	for _, a := range list {
		for _, b := range list {
			if len(b) > 0 {
				divides(t, a, b)
			}
		}
	}
}

func TestDivNearMultiples(t *testing.T) {
	s := source{3}
	one := natural.Of(1)
	for range 3000 {
		b := s.number(1 + s.below(6))
		product := natural.Mul(b, s.number(1+s.below(6)))
		divides(t, product, b)
		divides(t, natural.Add(product, one), b)
		if less, err := natural.Sub(product, one); err == nil {
			divides(t, less, b)
		}
	}
}

// Dividends and divisors of these forms make an estimated digit too great even after its correction.
func TestDivEstimates(t *testing.T) {
	words := []uint32{0, 1, 2, 1<<31 - 1, 1 << 31, 1<<31 + 1, 1<<32 - 2, 1<<32 - 1}
	n := len(words)
	for i := range n * n * n * n {
		a := []uint32{words[i%n], words[i/n%n], words[i/n/n%n], words[i/n/n/n]}
		for j := range n * n * n {
			b := []uint32{words[j%n], words[j/n%n], words[j/n/n]}
			if b[0] != 0 || b[1] != 0 || b[2] != 0 {
				q, r, err := natural.Div(a, b)
				if err != nil || natural.Cmp(r, b) >= 0 || natural.Cmp(natural.Add(natural.Mul(q, b), r), a) != 0 {
					t.Fatalf("Div(%v, %v) = %v, %v, %v", a, b, q, r, err)
				}
			}
		}
	}
}

func TestDivByZero(t *testing.T) {
	for _, a := range numbers(3) {
		for zeros := range 4 {
			if q, r, err := natural.Div(a, make([]uint32, zeros)); err != api.ErrZero || len(q) != 0 || len(r) != 0 {
				t.Errorf("Div(%v, 0) = %v, %v, %v", a, q, r, err)
			}
		}
	}
}

// common compares Gcd with the greatest common divisor, and with P1.3.
func common(t *testing.T, a, b []uint32) {
	t.Helper()
	p, q := lay(a, 2), lay(b, 1)
	divisor := natural.Gcd(p.words, q.words)
	expect(t, divisor, new(big.Int).GCD(nil, nil, toBig(a), toBig(b)), "Gcd", a, b)
	if len(divisor) > 0 {
		x, rest, _ := natural.Div(a, divisor)
		y, more, _ := natural.Div(b, divisor)
		if len(rest) != 0 || len(more) != 0 || !slices.Equal(natural.Gcd(x, y), natural.Of(1)) {
			t.Errorf("Gcd(%v, %v) = %v is no divisor, or not the greatest one", a, b, divisor)
		}
	}
	p.untouched(t, "Gcd", divisor)
	q.untouched(t, "Gcd")
}

func TestGcd(t *testing.T) {
	list := numbers(10)
	for _, a := range list {
		for _, b := range list {
			common(t, a, b)
		}
		expect(t, natural.Gcd(a, nil), toBig(a), "Gcd with 0", a)
		expect(t, natural.Gcd([]uint32{0, 0}, a), toBig(a), "Gcd of 0 and", a)
	}
	expect(t, natural.Gcd(natural.Of(12), natural.Of(18)), big.NewInt(6), "Gcd", 12, 18)
}

func TestGcdOfMultiples(t *testing.T) {
	s := source{4}
	for range 2000 {
		a, b, c := s.number(s.below(8)), s.number(s.below(8)), s.number(s.below(8))
		common(t, natural.Mul(a, c), natural.Mul(b, c))
		common(t, natural.Mul(a, c), natural.Add(natural.Mul(a, c), b))
	}
}

// Neighbours in Fibonacci's sequence need the most steps of Euclid's algorithm, all of them with the quotient 1.
func TestGcdOfFibonacci(t *testing.T) {
	s := source{5}
	a, b := natural.Of(0), natural.Of(1)
	for i := range 600 {
		a, b = b, natural.Add(a, b)
		expect(t, natural.Gcd(b, a), big.NewInt(1), "Gcd of Fibonacci's numbers", i)
		factor := s.number(1 + i%4)
		expect(t, natural.Gcd(natural.Mul(a, factor), natural.Mul(b, factor)), toBig(factor), "Gcd of multiples", i)
	}
}

// Going back along a chosen list of quotients gives numbers for which Euclid's algorithm finds these quotients.
func TestGcdWithQuotients(t *testing.T) {
	s := source{6}
	for i := range 2000 {
		a, b := natural.Of(0), s.number(1+i%3)
		divisor := b
		for range 1 + s.below(12) {
			a, b = b, natural.Add(natural.Mul(b, s.number(1+s.below(3))), a)
		}
		expect(t, natural.Gcd(a, b), toBig(divisor), "Gcd", a, b)
		common(t, b, a)
	}
}
