package linear_test

import (
	"testing"

	"faultline/api"
	"faultline/linear"
)

// blank returns a list of rows of zeros with the given lengths.
func blank(lengths ...int) [][]api.Rat {
	a := make([][]api.Rat, len(lengths))
	for i, n := range lengths {
		a[i] = make([]api.Rat, n)
	}
	return a
}

// tall returns n rows of one element, but for the last one, which has as many as given.
func tall(n, last int) [][]api.Rat {
	a := make([][]api.Rat, n)
	for i := range a {
		a[i] = make([]api.Rat, 1)
	}
	a[n-1] = make([]api.Rat, last)
	return a
}

// badMatrix is a list of rows that is not accepted, and why.
type badMatrix struct {
	a    [][]api.Rat
	want api.Errno
}

// badMatrices returns lists of rows with one fault, and with several of which the first one counts.
func badMatrices() []badMatrix {
	return []badMatrix{
		{nil, api.ErrShape},
		{[][]api.Rat{}, api.ErrShape},
		{[][]api.Rat{nil}, api.ErrShape},
		{blank(0), api.ErrShape},
		{blank(0, 0), api.ErrShape},
		{blank(0, 1), api.ErrShape},
		{blank(0, 257), api.ErrShape},
		{make([][]api.Rat, 257), api.ErrShape},
		{blank(257), api.ErrLarge},
		{blank(1000), api.ErrLarge},
		{blank(257, 1), api.ErrLarge},
		{blank(257, 257), api.ErrLarge},
		{tall(257, 1), api.ErrLarge},
		{tall(257, 2), api.ErrLarge},
		{tall(257, 0), api.ErrLarge},
		{tall(3000, 1), api.ErrLarge},
		{blank(1, 2), api.ErrShape},
		{blank(2, 1), api.ErrShape},
		{blank(2, 0), api.ErrShape},
		{blank(2, 2, 3), api.ErrShape},
		{blank(2, 3, 2), api.ErrShape},
		{blank(1, 257), api.ErrShape},
		{blank(256, 257), api.ErrShape},
		{tall(256, 2), api.ErrShape},
		{tall(256, 0), api.ErrShape},
	}
}

func TestCheck(t *testing.T) {
	for i, c := range badMatrices() {
		if err := linear.Check(c.a); err != c.want {
			t.Errorf("Check of list %d: %v, want %v", i, err, c.want)
		}
	}
	for _, a := range [][][]api.Rat{blank(1), blank(256), tall(256, 1), blank(2, 2), blank(3, 3), blank(256, 256)} {
		if err := linear.Check(a); err != nil {
			t.Errorf("Check of %d rows of %d: %v", len(a), len(a[0]), err)
		}
	}
	for _, m := range samples() {
		if err := linear.Check(m.fractions()); err != nil {
			t.Errorf("Check(%s): %v", show(m.fractions()), err)
		}
	}
}

// All functions return Check's error first, also if the lengths of the other argument do not agree.
func TestErrorsOfCheckComeFirst(t *testing.T) {
	for _, c := range badMatrices() {
		for n := range 4 {
			x, err := linear.Apply(c.a, make([]api.Rat, n))
			refused(t, "Apply", err, c.want, len(x))
			x, err = linear.Solve(c.a, make([]api.Rat, n))
			refused(t, "Solve", err, c.want, len(x))
		}
		b, pivots, err := linear.Reduce(c.a)
		refused(t, "Reduce", err, c.want, len(b)+len(pivots))
		rank, err := linear.Rank(c.a)
		refused(t, "Rank", err, c.want, rank)
		b, err = linear.Kernel(c.a)
		refused(t, "Kernel", err, c.want, len(b))
		d, err := linear.Det(c.a)
		refused(t, "Det", err, c.want, len(d.Num)+len(d.Den))
	}
}

// Mul checks its first argument, then the second one, and only then whether they agree.
func TestErrorsOfMul(t *testing.T) {
	for _, c := range badMatrices() {
		for _, good := range [][][]api.Rat{blank(1), blank(2), tall(3, 1), blank(256)} {
			b, err := linear.Mul(c.a, good)
			refused(t, "Mul", err, c.want, len(b))
			b, err = linear.Mul(good, c.a)
			refused(t, "Mul", err, c.want, len(b))
		}
		for _, other := range badMatrices() {
			b, err := linear.Mul(c.a, other.a)
			refused(t, "Mul", err, c.want, len(b))
		}
	}
	for _, rows := range []int{1, 2, 3, 256} {
		for _, columns := range []int{1, 2, 3, 256} {
			if rows != columns {
				b, err := linear.Mul(zeros(2, columns).fractions(), zeros(rows, 2).fractions())
				refused(t, "Mul", err, api.ErrShape, len(b))
			}
		}
	}
}

func TestErrorsOfShapes(t *testing.T) {
	for _, m := range samples() {
		a := m.fractions()
		for n := range 7 {
			if n != len(m[0]) {
				x, err := linear.Apply(a, make([]api.Rat, n))
				refused(t, "Apply", err, api.ErrShape, len(x))
			}
			if n != len(m) {
				x, err := linear.Solve(a, make([]api.Rat, n))
				refused(t, "Solve", err, api.ErrShape, len(x))
			}
		}
		if len(m) != len(m[0]) {
			d, err := linear.Det(a)
			refused(t, "Det", err, api.ErrShape, len(d.Num)+len(d.Den))
		}
	}
}
