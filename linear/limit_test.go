package linear_test

import (
	"math/big"
	"math/rand/v2"
	"slices"
	"testing"

	"faultline/api"
	"faultline/linear"
	"faultline/rational"
)

// primes returns the greatest primes below 2^31: modulo one of them, other numbers than 0 are 0.
func primes(n int) []*big.Int {
	var list []*big.Int
	for p := int64(1<<31 - 1); len(list) < n; p-- {
		if big.NewInt(p).ProbablyPrime(0) {
			list = append(list, big.NewInt(p))
		}
	}
	return list
}

// nearPrimes returns numbers that are 0 or 1 modulo some of the greatest primes below 2^31, or have them as
// denominators.
func nearPrimes(r *rand.Rand) func() *big.Rat {
	list := primes(4)
	return func() *big.Rat {
		n := big.NewInt(1)
		for _, p := range list {
			if r.IntN(2) == 0 {
				n.Mul(n, p)
			}
		}
		x := new(big.Rat).SetInt(n)
		switch r.IntN(6) {
		case 0:
			return x.Neg(x)
		case 1:
			return x.Inv(x)
		case 2:
			return x.Add(x, big.NewRat(1, 1))
		case 3:
			return big.NewRat(int64(r.IntN(2)), 1)
		}
		return x
	}
}

// Numbers that look like 0 modulo primes near the size of a word are not 0.
func TestNumbersNearPrimes(t *testing.T) {
	r := rand.New(rand.NewPCG(4, 2))
	for i := range 600 {
		rows, columns := 1+r.IntN(4), 1+r.IntN(4)
		m := random(rows, columns, nearPrimes(r))
		if i%3 == 0 {
			m = random(rows, 2, nearPrimes(r)).times(random(2, columns, nearPrimes(r)))
		}
		a := m.fractions()
		want, places := m.reduced()
		got, pivots, err := linear.Reduce(a)
		if err != nil || !slices.Equal(pivots, places) {
			t.Errorf("Reduce(%s): %v, %v, want %v", show(a), pivots, err, places)
		}
		expect(t, "Reduce", a, got, want)
		solves(t, m, random(1, rows, nearPrimes(r))[0])
		if rows == columns && !same(det(t, a), form(m.det())) {
			t.Errorf("Det(%s) = %s", show(a), rational.Text(det(t, a)))
		}
	}
}

// A product of many primes is 0 modulo each of them.
func TestProductOfManyPrimes(t *testing.T) {
	n := big.NewInt(1)
	for _, p := range primes(200) {
		n.Mul(n, p)
	}
	long, one := new(big.Rat).SetInt(n), big.NewRat(1, 1)
	m := matrix{{long, one}, {new(big.Rat), long}}
	if d := det(t, m.fractions()); !same(d, form(m.det())) {
		t.Errorf("Det = %s", rational.Text(d))
	}
	if solves(t, m, []*big.Rat{one, one}) != nil {
		t.Error("Solve: no solution")
	}
	if n := rank(t, matrix{{long}}.fractions()); n != 1 {
		t.Errorf("Rank = %d", n)
	}
}

// wholeNumber returns whole numbers from -9 to 9.
func wholeNumber(r *rand.Rand) func() *big.Rat {
	return func() *big.Rat { return big.NewRat(int64(r.IntN(19)-9), 1) }
}

// A regular matrix of the greatest size.
func TestGreatestSystem(t *testing.T) {
	r := rand.New(rand.NewPCG(4, 3))
	m, b := random(256, 256, wholeNumber(r)), random(1, 256, wholeNumber(r))[0]
	a := m.fractions()
	x, err := linear.Solve(a, forms(b))
	if err != nil {
		t.Fatalf("Solve: %v", err)
	}
	if y, err := linear.Apply(a, x); err != nil || !is(y, b) {
		t.Errorf("the solution does not satisfy its equations, %v", err)
	}
	rows, pivots, err := linear.Reduce(a)
	if err != nil || len(pivots) != 256 || !slices.EqualFunc(rows, unit(256), is) {
		t.Errorf("Reduce: %d pivots, %v", len(pivots), err)
	}
	// With the last equation twice, and then with another right side, there is still one solution, and none.
	a[0], b[0] = a[255], b[255]
	if _, err := linear.Solve(a, forms(b)); err != api.ErrUnknown {
		t.Errorf("Solve: %v", err)
	}
	b[0] = new(big.Rat).Add(b[0], big.NewRat(1, 1))
	if _, err := linear.Solve(a, forms(b)); err != api.ErrInfeasible {
		t.Errorf("Solve: %v", err)
	}
}

// A determinant of the greatest size: that of a product of triangular matrices is known.
func TestGreatestDeterminant(t *testing.T) {
	r := rand.New(rand.NewPCG(4, 4))
	lower, upper := random(256, 256, wholeNumber(r)).fractions(), random(256, 256, wholeNumber(r)).fractions()
	want := rational.Of(1)
	for i := range 256 {
		for j := range i {
			lower[j][i], upper[i][j] = api.Rat{}, api.Rat{}
		}
		lower[i][i], upper[i][i] = rational.Of(3-i%7*2), form(big.NewRat(1, int64(1+i%5)))
		want = rational.Mul(want, rational.Mul(lower[i][i], upper[i][i]))
	}
	product, err := linear.Mul(lower, upper)
	if err != nil {
		t.Fatalf("Mul: %v", err)
	}
	if d := det(t, product); !same(d, want) {
		t.Errorf("Det = %s, want %s", rational.Text(d), rational.Text(want))
	}
}

// The determinant is as great as rows of these lengths permit, which are no whole numbers; it is below 0 in turns.
func TestDeterminantAtItsBound(t *testing.T) {
	for pairs := 1; pairs <= 100; pairs++ {
		m := zeros(2*pairs, 2*pairs)
		for i := 0; i < 2*pairs; i += 2 {
			m[i][i].SetInt64(1)
			m[i][i+1].SetInt64(1)
			m[i+1][i].SetInt64(1)
			m[i+1][i+1].SetInt64(-1)
		}
		want := new(big.Int).Exp(big.NewInt(-2), big.NewInt(int64(pairs)), nil)
		if d := det(t, m.fractions()); !same(d, form(new(big.Rat).SetInt(want))) {
			t.Errorf("Det of %d rows = %s, want %v", 2*pairs, rational.Text(d), want)
		}
	}
}

// A matrix of the greatest size with a small rank, of which the reduced form is known.
func TestGreatestKernel(t *testing.T) {
	r := rand.New(rand.NewPCG(4, 5))
	want := random(10, 256, wholeNumber(r))
	var places []int
	for i, row := range want {
		place := 20*i + 3
		places = append(places, place)
		for _, x := range append(row[:place:place], want.column(place)...) {
			x.SetInt64(0)
		}
		row[place].SetInt64(1)
	}
	factors := random(256, 10, wholeNumber(r))
	a, err := linear.Mul(factors.fractions(), want.fractions())
	if err != nil {
		t.Fatalf("Mul: %v", err)
	}
	rows, pivots, err := linear.Reduce(a)
	if err != nil || !slices.Equal(pivots, places) || !slices.EqualFunc(rows, want, is) {
		t.Errorf("Reduce: %v, %v", pivots, err)
	}
	vectors, err := linear.Kernel(a)
	if err != nil || !slices.EqualFunc(vectors, want.kernel(), is) {
		t.Errorf("Kernel: %d vectors, %v", len(vectors), err)
	}
}

// The numbers 1 / (i + j + 1): the inverse matrix has whole elements, and the determinant is tiny.
func TestHilbertMatrices(t *testing.T) {
	for n := 1; n <= 24; n++ {
		m := zeros(n, n)
		for i, row := range m {
			for j := range row {
				row[j].SetFrac64(1, int64(i+j+1))
			}
		}
		want := big.NewRat(1, 1)
		for i := 1; i < n; i++ {
			// Each determinant is the one before it, divided by (2i+1) (2i over i)^2.
			choose := new(big.Int).Binomial(int64(2*i), int64(i))
			choose.Mul(choose, choose).Mul(choose, big.NewInt(int64(2*i+1)))
			want.Quo(want, new(big.Rat).SetInt(choose))
		}
		if d := det(t, m.fractions()); !same(d, form(want)) {
			t.Errorf("Det of %d rows = %s, want %v", n, rational.Text(d), want)
		}
		for _, b := range unit(n) {
			x, err := linear.Solve(m.fractions(), forms(b))
			if err != nil || slices.ContainsFunc(x, func(y api.Rat) bool { return rational.Cmp(y, rational.Floor(y)) != 0 }) {
				t.Errorf("a column of the inverse of %d rows is %s, %v", n, show([][]api.Rat{x}), err)
			}
			if y, err := linear.Apply(m.fractions(), x); err != nil || !is(y, b) {
				t.Errorf("%d rows: the solution does not satisfy its equations, %v", n, err)
			}
		}
	}
}

// Numbers of thousands of digits.
func TestLongNumbers(t *testing.T) {
	r := rand.New(rand.NewPCG(4, 6))
	long := func() *big.Rat {
		num, den := new(big.Int), new(big.Int)
		for range 150 {
			num.Lsh(num, 32).Or(num, big.NewInt(int64(r.Uint32())))
			den.Lsh(den, 32).Or(den, big.NewInt(int64(r.Uint32())))
		}
		return new(big.Rat).SetFrac(num, den)
	}
	m, b := random(2, 2, long), random(1, 2, long)[0]
	if solves(t, m, b) != nil {
		t.Error("Solve: no solution")
	}
	a := m.fractions()
	if d := det(t, a); !same(d, form(m.det())) {
		t.Errorf("Det = %s", rational.Text(d))
	}
	got, err := linear.Apply(a, forms(b))
	if err != nil || !is(got, m.apply(b)) {
		t.Errorf("Apply: %v", err)
	}
}
