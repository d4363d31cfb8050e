package linear_test

import (
	"math/big"
	"math/rand/v2"
	"slices"
	"strings"
	"testing"

	"faultline/api"
	"faultline/rational"
)

// matrix is a matrix of numbers, from which the results that are wanted are computed.
type matrix [][]*big.Rat

// read reads "1 2; 3 4".
func read(t *testing.T, s string) matrix {
	t.Helper()
	var m matrix
	for _, line := range strings.Split(s, ";") {
		var row []*big.Rat
		for _, word := range strings.Fields(line) {
			n, ok := new(big.Rat).SetString(word)
			if !ok {
				t.Fatalf("%q is no number", word)
			}
			row = append(row, n)
		}
		m = append(m, row)
	}
	return m
}

// zeros returns a matrix of zeros.
func zeros(rows, columns int) matrix {
	m := make(matrix, rows)
	for i := range m {
		m[i] = make([]*big.Rat, columns)
		for j := range m[i] {
			m[i][j] = new(big.Rat)
		}
	}
	return m
}

// random returns a matrix with elements that f makes.
func random(rows, columns int, f func() *big.Rat) matrix {
	m := zeros(rows, columns)
	for _, row := range m {
		for j := range row {
			row[j] = f()
		}
	}
	return m
}

// times returns the product of two matrices.
func (m matrix) times(other matrix) matrix {
	product := zeros(len(m), len(other[0]))
	for i, row := range m {
		for j := range product[i] {
			for k, x := range row {
				product[i][j].Add(product[i][j], new(big.Rat).Mul(x, other[k][j]))
			}
		}
	}
	return product
}

// apply returns the product of m and a vector.
func (m matrix) apply(x []*big.Rat) []*big.Rat {
	narrow := make(matrix, len(x))
	return m.times(narrow.with(x)).column(0)
}

// column returns column j of m.
func (m matrix) column(j int) []*big.Rat {
	var list []*big.Rat
	for _, row := range m {
		list = append(list, row[j])
	}
	return list
}

// with returns m with a further column.
func (m matrix) with(column []*big.Rat) matrix {
	wider := make(matrix, len(m))
	for i, row := range m {
		wider[i] = append(slices.Clone(row), column[i])
	}
	return wider
}

// reduced returns the reduced form and the columns of its pivots, by elimination with fractions.
func (m matrix) reduced() (matrix, []int) {
	m = m.times(unit(len(m[0])))
	var pivots []int
	for j := range m[0] {
		k := len(pivots)
		i := slices.IndexFunc(m[k:], func(row []*big.Rat) bool { return row[j].Sign() != 0 })
		if i < 0 {
			continue
		}
		m[k], m[k+i] = m[k+i], m[k]
		pivots = append(pivots, j)
		inverse := new(big.Rat).Inv(m[k][j])
		for _, x := range m[k] {
			x.Mul(x, inverse)
		}
		for i, row := range m {
			factor := new(big.Rat).Set(row[j])
			for j := range row {
				if i != k {
					row[j].Sub(row[j], new(big.Rat).Mul(factor, m[k][j]))
				}
			}
		}
	}
	return m[:len(pivots)], pivots
}

// unit returns the unit matrix.
func unit(n int) matrix {
	m := zeros(n, n)
	for i := range m {
		m[i][i].SetInt64(1)
	}
	return m
}

// kernel returns the vectors that Kernel is to return.
func (m matrix) kernel() matrix {
	form, pivots := m.reduced()
	var vectors matrix
	for j := range m[0] {
		if slices.Contains(pivots, j) {
			continue
		}
		x := zeros(1, len(m[0]))[0]
		x[j].SetInt64(1)
		for i, pivot := range pivots {
			x[pivot].Neg(form[i][j])
		}
		vectors = append(vectors, x)
	}
	return vectors
}

// det returns the determinant, expanded by the first row, and so on.
func (m matrix) det() *big.Rat {
	if len(m) == 0 {
		return big.NewRat(1, 1)
	}
	sum := new(big.Rat)
	for j, x := range m[0] {
		if x.Sign() == 0 {
			continue
		}
		var rest matrix
		for _, row := range m[1:] {
			rest = append(rest, slices.Delete(slices.Clone(row), j, j+1))
		}
		product := new(big.Rat).Mul(x, rest.det())
		if j%2 == 1 {
			product.Neg(product)
		}
		sum.Add(sum, product)
	}
	return sum
}

// form returns the valid form of a number.
func form(n *big.Rat) api.Rat {
	if n.Sign() == 0 {
		return api.Rat{}
	}
	return api.Rat{Neg: n.Sign() < 0, Num: words(n.Num()), Den: words(n.Denom())}
}

// words returns the absolute value of n as a list of words.
func words(n *big.Int) []uint32 {
	var list []uint32
	for rest := new(big.Int).Abs(n); rest.Sign() != 0; rest.Rsh(rest, 32) {
		list = append(list, uint32(new(big.Int).And(rest, big.NewInt(1<<32-1)).Uint64()))
	}
	return list
}

// forms returns the valid forms of a list of numbers, in the midst of other memory.
func forms(list []*big.Rat) []api.Rat {
	row := make([]api.Rat, len(list), len(list)+2)
	for i, n := range list {
		row[i] = laid(form(n))
	}
	row[:len(row)+1][len(row)] = api.Rat{Num: []uint32{0xcafe}}
	return row
}

// fractions returns the matrix as an argument.
func (m matrix) fractions() [][]api.Rat {
	a := make([][]api.Rat, len(m), len(m)+1)
	for i, row := range m {
		a[i] = forms(row)
	}
	return a
}

// laid returns x with lists that are the first parts of longer ones.
func laid(x api.Rat) api.Rat {
	return api.Rat{Neg: x.Neg, Num: laidList(x.Num), Den: laidList(x.Den)}
}

func laidList(list []uint32) []uint32 {
	return append(slices.Clone(list), 0xdead, 0xbeef)[:len(list)]
}

// same reports whether all fields of two fractions are equal.
func same(x, y api.Rat) bool {
	return x.Neg == y.Neg && slices.Equal(x.Num, y.Num) && slices.Equal(x.Den, y.Den)
}

// is reports whether list consists of the valid forms of some numbers.
func is(list []api.Rat, want []*big.Rat) bool {
	return slices.EqualFunc(list, want, func(x api.Rat, n *big.Rat) bool { return same(x, form(n)) })
}

// show returns the texts of some rows.
func show(a [][]api.Rat) string {
	var lines []string
	for _, row := range a {
		var words []string
		for _, x := range row {
			words = append(words, rational.Text(x))
		}
		lines = append(lines, strings.Join(words, " "))
	}
	return strings.Join(lines, "; ")
}

// expect reports rows that are not the valid forms of the numbers wanted.
func expect(t *testing.T, call string, a, got [][]api.Rat, want matrix) {
	t.Helper()
	if !slices.EqualFunc(got, want, is) {
		t.Errorf("%s(%s) = %s, want %s", call, show(a), show(got), show(want.fractions()))
	}
}

// refused reports a call that does not return the error wanted, or something else with it.
func refused(t *testing.T, call string, err error, want api.Errno, results int) {
	t.Helper()
	if err != want || results != 0 {
		t.Errorf("%s: the error %v, want %v; %d results", call, err, want, results)
	}
}

// number returns whole numbers and fractions, many of them 0 or 1.
func number(r *rand.Rand) func() *big.Rat {
	return func() *big.Rat {
		switch r.IntN(8) {
		case 0, 1:
			return new(big.Rat)
		case 2:
			return big.NewRat(1, 1)
		case 3:
			return big.NewRat(int64(r.IntN(9)-4), int64(1+r.IntN(6)))
		case 4:
			return big.NewRat(r.Int64()-1<<62, 1+r.Int64N(1<<62))
		}
		return big.NewRat(int64(r.IntN(7)-3), 1)
	}
}

// samples returns matrices of all shapes up to 5 rows and columns. Some have rows that are combined of few others.
func samples() []matrix {
	r := rand.New(rand.NewPCG(4, 1))
	var list []matrix
	for rows := 1; rows <= 5; rows++ {
		for columns := 1; columns <= 5; columns++ {
			list = append(list, zeros(rows, columns))
			for range 12 {
				list = append(list, random(rows, columns, number(r)))
				rank := 1 + r.IntN(4)
				list = append(list, random(rows, rank, number(r)).times(random(rank, columns, number(r))))
			}
		}
	}
	return list
}

// squares returns the samples that are square.
func squares() []matrix {
	return slices.DeleteFunc(samples(), func(m matrix) bool { return len(m) != len(m[0]) })
}

// vectors returns lists of n numbers.
func vectors(n int) matrix {
	return random(6, n, number(rand.New(rand.NewPCG(4, uint64(n)))))
}
