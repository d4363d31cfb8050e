package linear

import (
	"slices"

	"faultline/api"
	"faultline/rational"
)

// Reduce returns the reduced form of a, and the columns of its pivots.
func Reduce(a [][]api.Rat) ([][]api.Rat, []int, error) {
	if err := Check(a); err != nil {
		return nil, nil, err
	}
	r := reduce(integers(a))
	rows := make([][]api.Rat, len(r.pivots))
	for i, pivot := range r.pivots {
		rows[i] = make([]api.Rat, len(a[0]))
		rows[i][pivot] = rational.Of(1)
		for k, free := range r.free {
			rows[i][free] = r.columns[k].at(i)
		}
	}
	return rows, r.pivots, nil
}

// Rank returns the number of pivots of a.
func Rank(a [][]api.Rat) (int, error) {
	if err := Check(a); err != nil {
		return 0, err
	}
	return len(reduce(integers(a)).pivots), nil
}

// Kernel returns, for each column of a without a pivot, the vector that a maps to 0 and that has 1 there and 0 in the
// other such columns.
func Kernel(a [][]api.Rat) ([][]api.Rat, error) {
	if err := Check(a); err != nil {
		return nil, err
	}
	r := reduce(integers(a))
	vectors := make([][]api.Rat, len(r.free))
	for k, free := range r.free {
		vectors[k] = make([]api.Rat, len(a[0]))
		vectors[k][free] = rational.Of(1)
		for i, pivot := range r.pivots {
			vectors[k][pivot] = rational.Neg(r.columns[k].at(i))
		}
	}
	return vectors, nil
}

// Solve returns the only x with a x = b: ErrShape unless b has as many elements as a rows, ErrInfeasible if there is
// no such x, ErrUnknown if there are several.
func Solve(a [][]api.Rat, b []api.Rat) ([]api.Rat, error) {
	if err := Check(a); err != nil {
		return nil, err
	}
	if len(b) != len(a) {
		return nil, api.ErrShape
	}
	extended := make([][]api.Rat, len(a))
	for i, row := range a {
		extended[i] = append(slices.Clone(row), b[i])
	}
	r := reduce(integers(extended))
	if slices.Contains(r.pivots, len(a[0])) {
		return nil, api.ErrInfeasible
	}
	if len(r.pivots) < len(a[0]) {
		return nil, api.ErrUnknown
	}
	x := make([]api.Rat, len(a[0]))
	for i := range x {
		x[i] = r.columns[0].at(i)
	}
	return x, nil
}

// reduced is the reduced form of a matrix: the columns of the pivots, the other ones, and the elements of these.
type reduced struct {
	pivots, free []int
	columns      []vector
}

// reduce returns the reduced form of a matrix of integers. Only primes that divide a certain determinant mislead, so
// that there are not many of them.
func reduce(rows [][]integer) reduced {
	f := firstField()
	for {
		if r, ok := f.reduce(rows); ok {
			return r
		}
		f = f.next()
	}
}

// reduce returns the reduced form; ok is false if its pivots are not where they are modulo the prime.
//
// The columns with these pivots are independent, as they are so modulo the prime. If each other column is combined of
// those of them that are in front of it, the pivots are right, and the factors are the elements of the reduced form.
func (f field) reduce(rows [][]integer) (r reduced, ok bool) {
	e := f.eliminate(f.residues(rows))
	r = reduced{pivots: e.pivots, free: without(len(rows[0]), e.pivots)}
	if len(r.free) == 0 {
		return r, true
	}
	rank := len(e.pivots)
	ordered := pick(rows, e.order)
	parts := make([][]integer, len(rows))
	for i, row := range ordered {
		parts[i] = pick(row, e.pivots)
	}
	s := systemOf(f, parts[:rank])
	for _, free := range r.free {
		target := column(ordered, free)
		x := s.solve(target[:rank])
		if !x.solves(parts[rank:], target[rank:]) || !x.ends(r.pivots, free) {
			return reduced{}, false
		}
		r.columns = append(r.columns, x)
	}
	return r, true
}

// without returns the numbers below n that are not in the list.
func without(n int, list []int) []int {
	var rest []int
	for i := range n {
		if !slices.Contains(list, i) {
			rest = append(rest, i)
		}
	}
	return rest
}

// pick returns the elements of a list at some places.
func pick[T any](list []T, places []int) []T {
	picked := make([]T, len(places))
	for i, place := range places {
		picked[i] = list[place]
	}
	return picked
}
