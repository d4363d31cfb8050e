package rational_test

import (
	"math/big"
	"testing"

	"faultline/api"
	"faultline/rational"
)

// few returns some valid fractions of all kinds.
func few() []api.Rat {
	var list []api.Rat
	for i, n := range numbers() {
		if i%4 == 0 || i < 6 {
			list = append(list, form(n))
		}
	}
	return list
}

// TestField checks the laws of sums, products and quotients of promise P2.2.
func TestField(t *testing.T) {
	zero, one := rational.Of(0), rational.Of(1)
	for _, a := range few() {
		equal(t, rational.Add(a, zero), a, "a + 0", a)
		equal(t, rational.Mul(a, one), a, "a * 1", a)
		equal(t, rational.Add(a, rational.Neg(a)), zero, "a + -a", a)
		for _, b := range few() {
			equal(t, rational.Add(a, b), rational.Add(b, a), "a + b", a, b)
			equal(t, rational.Mul(a, b), rational.Mul(b, a), "a * b", a, b)
			equal(t, rational.Sub(rational.Add(a, b), b), a, "a + b - b", a, b)
			if rational.Sign(b) != 0 {
				q, err := rational.Div(a, b)
				if err != nil {
					t.Errorf("%v / %v: %v", a, b, err)
				}
				equal(t, rational.Mul(q, b), a, "a / b * b", a, b)
			}
			for _, c := range few() {
				equal(t, rational.Add(rational.Add(a, b), c), rational.Add(a, rational.Add(b, c)), "a + b + c", a, b, c)
				equal(t, rational.Mul(rational.Mul(a, b), c), rational.Mul(a, rational.Mul(b, c)), "a * b * c", a, b, c)
				product := rational.Add(rational.Mul(a, b), rational.Mul(a, c))
				equal(t, rational.Mul(a, rational.Add(b, c)), product, "a * (b + c)", a, b, c)
			}
		}
	}
}

// equal reports two fractions of which a field differs.
func equal(t *testing.T, got, want api.Rat, law string, args ...any) {
	t.Helper()
	if !same(got, want) {
		t.Errorf("%s of %v: %v and %v", law, args, got, want)
	}
}

// TestOrder checks the laws of order of promise P2.2.
func TestOrder(t *testing.T) {
	for _, a := range few() {
		for _, b := range few() {
			n := rational.Cmp(a, b)
			if n != -rational.Cmp(b, a) || (n == 0) != same(a, b) || n != rational.Sign(rational.Sub(a, b)) {
				t.Errorf("Cmp(%v, %v) = %d", a, b, n)
			}
			for _, c := range few() {
				if n != rational.Cmp(rational.Add(a, c), rational.Add(b, c)) {
					t.Errorf("the order of %v and %v is not that of their sums with %v", a, b, c)
				}
				if n*rational.Sign(c) != rational.Cmp(rational.Mul(a, c), rational.Mul(b, c)) {
					t.Errorf("the order of %v and %v does not agree with that of their products with %v", a, b, c)
				}
				if n < 0 && rational.Cmp(b, c) < 0 && rational.Cmp(a, c) >= 0 {
					t.Errorf("%v, %v and %v: the order is not transitive", a, b, c)
				}
			}
		}
	}
}

// TestForms checks promise P2.3 for numbers, and for results that were computed in different ways.
func TestForms(t *testing.T) {
	for i, x := range numbers() {
		for j, y := range numbers() {
			a, b := form(x), form(y)
			if (rational.Cmp(a, b) == 0) != same(a, b) || same(a, b) != (x.Cmp(y) == 0) {
				t.Errorf("Cmp(%v, %v) = %d", a, b, rational.Cmp(a, b))
			}
			sum := rational.Add(a, b)
			if !rational.Valid(sum) || !rational.Valid(rational.Mul(a, b)) || !rational.Valid(rational.Sub(a, b)) {
				t.Errorf("results of the numbers %d and %d are not valid", i, j)
			}
			difference := rational.Sub(rational.Mul(a, a), rational.Mul(b, b))
			equal(t, rational.Mul(sum, rational.Sub(a, b)), difference, "(a + b) * (a - b)", a, b)
		}
	}
}

func TestSignCmpAndProb(t *testing.T) {
	one := big.NewRat(1, 1)
	for _, x := range samples() {
		a := lay(x.a)
		if n := rational.Sign(a.a); n != x.value.Sign() {
			t.Errorf("Sign(%v) = %d", x.a, n)
		}
		if want := x.valid && x.value.Sign() >= 0 && x.value.Cmp(one) <= 0; rational.Prob(a.a) != want {
			t.Errorf("Prob(%v) = %v", x.a, !want)
		}
		for _, y := range samples() {
			b := lay(y.a)
			if n := rational.Cmp(a.a, b.a); n != x.value.Cmp(y.value) {
				t.Errorf("Cmp(%v, %v) = %d", x.a, y.a, n)
			}
			b.untouched(t, "Cmp")
		}
		a.untouched(t, "Sign, Cmp and Prob")
	}
}

func TestProbNearItsBounds(t *testing.T) {
	for s, want := range map[string]bool{
		"0": true, "1": true, "0.0": true, "1.0": true, "1/2": true, "-1": false, "2": false, "-1/2": false,
		"1/4294967296": true, "-1/4294967296": false, "4294967295/4294967296": true, "4294967297/4294967296": false,
		"18446744073709551615/18446744073709551616": true, "18446744073709551617/18446744073709551616": false,
	} {
		if rational.Prob(parse(t, s)) != want {
			t.Errorf("Prob(%s) = %v", s, !want)
		}
	}
}
