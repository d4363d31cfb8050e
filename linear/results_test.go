package linear_test

import (
	"math/big"
	"slices"
	"testing"

	"faultline/api"
	"faultline/linear"
	"faultline/rational"
)

func TestApply(t *testing.T) {
	for _, m := range samples() {
		for _, x := range vectors(len(m[0])) {
			a := m.fractions()
			got, err := linear.Apply(a, forms(x))
			if err != nil || !is(got, m.apply(x)) {
				t.Errorf("Apply(%s, %v) = %v, %v", show(a), x, show([][]api.Rat{got}), err)
			}
		}
	}
}

func TestMul(t *testing.T) {
	all := samples()
	for i, m := range all {
		for j, other := range all {
			if len(m[0]) == len(other) && (i+j)%7 == 0 {
				a := m.fractions()
				got, err := linear.Mul(a, other.fractions())
				if err != nil {
					t.Errorf("Mul(%s, %s): %v", show(a), show(other.fractions()), err)
				}
				expect(t, "Mul", a, got, m.times(other))
			}
		}
	}
}

func TestReduceRankAndKernel(t *testing.T) {
	for _, m := range samples() {
		a := m.fractions()
		form, columns := m.reduced()
		got, pivots, err := linear.Reduce(a)
		if err != nil || !slices.Equal(pivots, columns) {
			t.Errorf("Reduce(%s): %v, %v, want %v", show(a), pivots, err, columns)
		}
		expect(t, "Reduce", a, got, form)
		if rank, err := linear.Rank(a); err != nil || rank != len(columns) {
			t.Errorf("Rank(%s) = %d, %v, want %d", show(a), rank, err, len(columns))
		}
		got, err = linear.Kernel(a)
		if err != nil {
			t.Errorf("Kernel(%s): %v", show(a), err)
		}
		expect(t, "Kernel", a, got, m.kernel())
	}
}

// solves compares Solve with the reduced form of the matrix with b as a further column.
func solves(t *testing.T, m matrix, b []*big.Rat) error {
	t.Helper()
	a := m.fractions()
	got, err := linear.Solve(a, forms(b))
	form, pivots := m.with(b).reduced()
	switch {
	case slices.Contains(pivots, len(m[0])):
		refused(t, "Solve", err, api.ErrInfeasible, len(got))
	case len(pivots) < len(m[0]):
		refused(t, "Solve", err, api.ErrUnknown, len(got))
	case err != nil || !is(got, form.column(len(m[0]))):
		t.Errorf("Solve(%s, %v) = %s, %v", show(a), b, show([][]api.Rat{got}), err)
	}
	return err
}

func TestSolve(t *testing.T) {
	seen := map[error]int{}
	for _, m := range samples() {
		for i, b := range vectors(len(m)) {
			seen[solves(t, m, b)]++
			x := vectors(len(m[0]))[i]
			seen[solves(t, m, m.apply(x))]++
		}
		seen[solves(t, m, zeros(1, len(m))[0])]++
	}
	if len(seen) != 3 || seen[nil] < 100 || seen[api.ErrInfeasible] < 100 || seen[api.ErrUnknown] < 100 {
		t.Errorf("the samples have the results %v", seen)
	}
}

func TestDet(t *testing.T) {
	for _, m := range squares() {
		a := m.fractions()
		if d, err := linear.Det(a); err != nil || !same(d, form(m.det())) {
			t.Errorf("Det(%s) = %v, %v, want %v", show(a), rational.Text(d), err, m.det())
		}
	}
}

func TestExamples(t *testing.T) {
	a := read(t, "1 2; 3 4").fractions()
	if d, err := linear.Det(a); err != nil || rational.Text(d) != "-2" {
		t.Errorf("Det = %s, %v", rational.Text(d), err)
	}
	if b, pivots, err := linear.Reduce(a); err != nil || show(b) != "1 0; 0 1" || !slices.Equal(pivots, []int{0, 1}) {
		t.Errorf("Reduce = %s, %v, %v", show(b), pivots, err)
	}
	if x, err := linear.Solve(a, forms(read(t, "5 6")[0])); err != nil || show([][]api.Rat{x}) != "-4 9/2" {
		t.Errorf("Solve = %s, %v", show([][]api.Rat{x}), err)
	}
	if b, err := linear.Kernel(read(t, "1 2").fractions()); err != nil || show(b) != "-2 1" {
		t.Errorf("Kernel = %s, %v", show(b), err)
	}
}

// A matrix of zeros has no pivots; one with a pivot in each column has no kernel.
func TestEmptyResults(t *testing.T) {
	for _, a := range [][][]api.Rat{blank(1), blank(3), blank(2, 2), tall(256, 1)} {
		b, pivots, err := linear.Reduce(a)
		if err != nil || len(b) != 0 || len(pivots) != 0 {
			t.Errorf("Reduce = %v, %v, %v", b, pivots, err)
		}
		b, err = linear.Kernel(a)
		expect(t, "Kernel", a, b, unit(len(a[0])))
		if err != nil {
			t.Errorf("Kernel: %v", err)
		}
	}
	for _, s := range []string{"7", "1 2; 3 4", "0; 0; 2", "0 1; 1 0; 5 5"} {
		a := read(t, s).fractions()
		if b, err := linear.Kernel(a); err != nil || len(b) != 0 {
			t.Errorf("Kernel(%s) = %v, %v", s, b, err)
		}
	}
}

// notValid returns fractions that are not valid; they look like numbers other than 0.
func notValid() []api.Rat {
	return []api.Rat{
		{Neg: true},
		{Num: []uint32{3}},
		{Den: []uint32{3}},
		{Num: []uint32{5}, Den: []uint32{0}},
		{Num: []uint32{0}, Den: []uint32{1}},
		{Num: []uint32{2}, Den: []uint32{4}},
		{Neg: true, Num: []uint32{6}, Den: []uint32{3}},
		{Num: []uint32{1, 0}, Den: []uint32{1}},
		{Num: []uint32{1}, Den: []uint32{7, 0}},
	}
}

// Fractions that are not valid count as 0, in matrices and in vectors.
func TestFractionsThatAreNotValid(t *testing.T) {
	for i, bad := range notValid() {
		m, x := read(t, "2 1/3 0; 5 0 1/2; 0 -4 3"), read(t, "1 0 -2/3")[0]
		a, b := m.fractions(), forms(x)
		for j := range m {
			a[j][slices.IndexFunc(m[j], func(n *big.Rat) bool { return n.Sign() == 0 })] = bad
		}
		b[1] = bad
		got, err := linear.Apply(a, b)
		if err != nil || !is(got, m.apply(x)) {
			t.Errorf("Apply with %d: %v, %v", i, got, err)
		}
		product, err := linear.Mul(a, a)
		if err != nil {
			t.Errorf("Mul with %d: %v", i, err)
		}
		expect(t, "Mul", a, product, m.times(m))
		if d, err := linear.Det(a); err != nil || !same(d, form(m.det())) {
			t.Errorf("Det with %d: %v, %v", i, d, err)
		}
		solution, _ := m.with(x).reduced()
		if got, err := linear.Solve(a, b); err != nil || !is(got, solution.column(3)) {
			t.Errorf("Solve with %d: %v, %v", i, got, err)
		}
		rows, pivots, err := linear.Reduce([][]api.Rat{{bad, bad}, {bad, rational.Of(2)}})
		if err != nil || show(rows) != "0 1" || !slices.Equal(pivots, []int{1}) {
			t.Errorf("Reduce with %d: %v, %v, %v", i, rows, pivots, err)
		}
		if rank, err := linear.Rank([][]api.Rat{{bad}}); err != nil || rank != 0 {
			t.Errorf("Rank with %d: %d, %v", i, rank, err)
		}
		rows, err = linear.Kernel([][]api.Rat{{rational.Of(2), bad}})
		if err != nil || show(rows) != "0 1" {
			t.Errorf("Kernel with %d: %v, %v", i, rows, err)
		}
	}
}
