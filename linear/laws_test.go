package linear_test

import (
	"testing"

	"faultline/api"
	"faultline/linear"
	"faultline/rational"
)

// rank returns the Rank of a.
func rank(t *testing.T, a [][]api.Rat) int {
	t.Helper()
	n, err := linear.Rank(a)
	if err != nil {
		t.Fatalf("Rank(%s): %v", show(a), err)
	}
	return n
}

// det returns the Det of a.
func det(t *testing.T, a [][]api.Rat) api.Rat {
	t.Helper()
	d, err := linear.Det(a)
	if err != nil {
		t.Fatalf("Det(%s): %v", show(a), err)
	}
	return d
}

// further returns a with b as a further column.
func further(a [][]api.Rat, b []api.Rat) [][]api.Rat {
	wider := make([][]api.Rat, len(a))
	for i, row := range a {
		wider[i] = append(append([]api.Rat(nil), row...), b[i])
	}
	return wider
}

// TestSystems checks promise P4.2 for systems.
func TestSystems(t *testing.T) {
	for _, m := range samples() {
		a := m.fractions()
		for _, v := range vectors(len(m)) {
			b := forms(v)
			x, err := linear.Solve(a, b)
			if (err == api.ErrInfeasible) != (rank(t, further(a, b)) > rank(t, a)) {
				t.Errorf("Solve(%s, %s): %v", show(a), show([][]api.Rat{b}), err)
			}
			if err == nil != (rank(t, further(a, b)) == len(a[0]) && rank(t, a) == len(a[0])) {
				t.Errorf("Solve(%s, %s): %v", show(a), show([][]api.Rat{b}), err)
			}
			if err != nil {
				continue
			}
			y, err := linear.Apply(a, x)
			if err != nil || !is(y, v) {
				t.Errorf("%s maps the solution for %s to %s, %v", show(a), show([][]api.Rat{b}), show([][]api.Rat{y}), err)
			}
		}
	}
}

// TestKernels checks promise P4.2 for kernels.
func TestKernels(t *testing.T) {
	for _, m := range samples() {
		a := m.fractions()
		vectors, err := linear.Kernel(a)
		if err != nil || len(vectors) != len(a[0])-rank(t, a) {
			t.Errorf("Kernel(%s) = %s, %v", show(a), show(vectors), err)
		}
		for _, x := range vectors {
			y, err := linear.Apply(a, x)
			if err != nil || !is(y, zeros(1, len(a))[0]) {
				t.Errorf("%s maps %s to %s, %v", show(a), show([][]api.Rat{x}), show([][]api.Rat{y}), err)
			}
		}
		if len(vectors) > 0 && rank(t, vectors) != len(vectors) {
			t.Errorf("Kernel(%s) = %s: dependent", show(a), show(vectors))
		}
	}
}

// TestDeterminants checks promise P4.3.
func TestDeterminants(t *testing.T) {
	all := squares()
	for i, m := range all {
		a := m.fractions()
		if (rational.Sign(det(t, a)) == 0) != (rank(t, a) < len(a)) {
			t.Errorf("%s: determinant %s, rank %d", show(a), rational.Text(det(t, a)), rank(t, a))
		}
		for j, other := range all {
			if len(m) != len(other) || (i+j)%3 != 0 {
				continue
			}
			b := other.fractions()
			product, err := linear.Mul(a, b)
			if err != nil || !same(det(t, product), rational.Mul(det(t, a), det(t, b))) {
				t.Errorf("%s and %s: the determinant of the product is %s, %v", show(a), show(b), rational.Text(det(t, product)), err)
			}
		}
	}
}
