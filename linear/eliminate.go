package linear

import "slices"

// echelon tells what elimination found: the columns of the pivots, which row is now at which place, and the product
// of the pivots, negative if the order of the rows is odd.
type echelon struct {
	pivots, order []int
	product       uint64
}

// eliminate brings rows of residues into row echelon form, in which each pivot is 1.
func (f field) eliminate(rows [][]uint64) echelon {
	e := echelon{order: make([]int, len(rows)), product: 1}
	for i := range e.order {
		e.order[i] = i
	}
	for j := 0; len(e.pivots) < len(rows) && j < len(rows[0]); j++ {
		k := len(e.pivots)
		below := slices.IndexFunc(rows[k:], func(row []uint64) bool { return row[j] != 0 })
		if below < 0 {
			continue
		}
		if below > 0 {
			rows[k], rows[k+below] = rows[k+below], rows[k]
			e.order[k], e.order[k+below] = e.order[k+below], e.order[k]
			e.product = f.sub(0, e.product)
		}
		e.product = f.mul(e.product, rows[k][j])
		f.divide(rows[k][j:], rows[k][j])
		f.clear(rows[k+1:], rows[k], j)
		e.pivots = append(e.pivots, j)
	}
	return e
}

// divide divides the elements of a row.
func (f field) divide(row []uint64, divisor uint64) {
	inverse := f.invert(divisor)
	for i, x := range row {
		row[i] = f.mul(x, inverse)
	}
}

// clear makes element j of some rows 0 by subtracting multiples of another row, whose element j is 1 and in which
// all elements in front of it are 0.
func (f field) clear(rows [][]uint64, other []uint64, j int) {
	for _, row := range rows {
		if row[j] == 0 {
			continue
		}
		factor := f.prime - row[j]
		for i := j; i < len(row); i++ {
			row[i] = f.mod(row[i] + factor*other[i])
		}
	}
}

// inverse returns the inverse of a regular square matrix.
func (f field) inverse(square [][]uint64) [][]uint64 {
	n := len(square)
	rows := make([][]uint64, n)
	for i, row := range square {
		rows[i] = slices.Concat(row, make([]uint64, n))
		rows[i][n+i] = 1
	}
	f.eliminate(rows)
	for i := n - 1; i >= 0; i-- {
		f.clear(rows[:i], rows[i], i)
	}
	for i := range rows {
		rows[i] = rows[i][n:]
	}
	return rows
}
