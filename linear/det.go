package linear

import (
	"faultline/api"
	"faultline/natural"
)

// Det returns the determinant of a, or ErrShape unless a is square.
func Det(a [][]api.Rat) (api.Rat, error) {
	if err := Check(a); err != nil {
		return api.Rat{}, err
	}
	if len(a) != len(a[0]) {
		return api.Rat{}, api.ErrShape
	}
	den := natural.Of(1)
	rows := make([][]integer, len(a))
	for i, row := range a {
		s := scale(row)
		rows[i] = s.list
		den = natural.Mul(den, s.den)
	}
	return determinant(rows).over(den), nil
}

// determinant returns the determinant of a square matrix of integers. It collects remainders by primes until they
// determine a number that is within the bound, above or below 0.
func determinant(rows [][]integer) integer {
	room := natural.Mul(bound(rows), natural.Of(2))
	var number []uint32
	modulus := natural.Of(1)
	for f := firstField(); natural.Cmp(modulus, room) <= 0; f = f.next() {
		missing := f.sub(f.determinant(rows), f.residue(integer{size: number}))
		digit := f.mul(missing, f.invert(f.residue(integer{size: modulus})))
		number = natural.Add(number, natural.Mul(modulus, natural.Of(int(digit))))
		modulus = natural.Mul(modulus, natural.Of(int(f.prime)))
	}
	if natural.Cmp(natural.Mul(number, natural.Of(2)), modulus) > 0 {
		return difference(number, modulus)
	}
	return integer{size: number}
}

// determinant returns the determinant of a square matrix modulo the prime.
func (f field) determinant(rows [][]integer) uint64 {
	e := f.eliminate(f.residues(rows))
	if len(e.pivots) < len(rows) {
		return 0
	}
	return e.product
}

// bound returns a number that no determinant of these rows exceeds: the product of their lengths, rounded up
// (Hadamard's inequality).
func bound(rows [][]integer) []uint32 {
	product := natural.Of(1)
	for _, row := range rows {
		square := dot(row, row).size
		root := natural.Root(square)
		if natural.Cmp(natural.Mul(root, root), square) < 0 {
			root = natural.Add(root, natural.Of(1))
		}
		product = natural.Mul(product, root)
	}
	return product
}
