package linear_test

import (
	"slices"
	"testing"

	"faultline/api"
	"faultline/linear"
)

// calls returns all functions, each with its results as rows; the matrix is square.
func calls() map[string]func(a [][]api.Rat, x []api.Rat) [][]api.Rat {
	return map[string]func(a [][]api.Rat, x []api.Rat) [][]api.Rat{
		"Check": func(a [][]api.Rat, _ []api.Rat) [][]api.Rat {
			linear.Check(a)
			return nil
		},
		"Apply": func(a [][]api.Rat, x []api.Rat) [][]api.Rat {
			y, _ := linear.Apply(a, x)
			return [][]api.Rat{y}
		},
		"Mul": func(a [][]api.Rat, _ []api.Rat) [][]api.Rat {
			b, _ := linear.Mul(a, a)
			return b
		},
		"Reduce": func(a [][]api.Rat, _ []api.Rat) [][]api.Rat {
			b, _, _ := linear.Reduce(a)
			return b
		},
		"Rank": func(a [][]api.Rat, _ []api.Rat) [][]api.Rat {
			linear.Rank(a)
			return nil
		},
		"Kernel": func(a [][]api.Rat, _ []api.Rat) [][]api.Rat {
			b, _ := linear.Kernel(a)
			return b
		},
		"Solve": func(a [][]api.Rat, x []api.Rat) [][]api.Rat {
			y, _ := linear.Solve(a, x)
			return [][]api.Rat{y}
		},
		"Det": func(a [][]api.Rat, _ []api.Rat) [][]api.Rat {
			d, _ := linear.Det(a)
			return [][]api.Rat{{d}}
		},
	}
}

// No function changes its arguments, or the memory behind them; results share no memory with them or among each other.
func TestMemory(t *testing.T) {
	for name, call := range calls() {
		for _, m := range squares() {
			for _, x := range vectors(len(m))[:2] {
				a, b := m.fractions(), forms(x)
				spoil(t, name, call(a, b))
				if !slices.EqualFunc(whole(a), whole(m.fractions()), equalRows) || !equalRows(b[:cap(b)], forms(x)[:cap(b)]) {
					t.Errorf("%s(%s): the memory of the arguments has changed", name, show(m.fractions()))
				}
			}
		}
	}
}

// whole returns the rows with the memory behind them.
func whole(a [][]api.Rat) [][]api.Rat {
	a = slices.Clone(a[:cap(a)])
	for i, row := range a {
		a[i] = row[:cap(row)]
	}
	return a
}

// equalRows compares fractions with the memory behind their lists.
func equalRows(a, b []api.Rat) bool {
	return slices.EqualFunc(a, b, func(x, y api.Rat) bool {
		return x.Neg == y.Neg && slices.Equal(x.Num[:cap(x.Num)], y.Num[:cap(x.Num)]) &&
			slices.Equal(x.Den[:cap(x.Den)], y.Den[:cap(x.Den)])
	})
}

// spoil changes all memory of a result, and reports lists that share memory.
func spoil(t *testing.T, call string, result [][]api.Rat) {
	t.Helper()
	var lists [][]uint32
	for _, row := range result {
		for _, x := range row {
			lists = append(lists, x.Num[:cap(x.Num)], x.Den[:cap(x.Den)])
		}
	}
	for i, list := range lists {
		for j := range list {
			list[j] = uint32(i)
		}
	}
	for i, list := range lists {
		if slices.ContainsFunc(list, func(word uint32) bool { return word != uint32(i) }) {
			t.Errorf("%s: lists of the result share memory", call)
		}
	}
	for i, row := range result {
		for j := range row[:cap(row)] {
			row[:cap(row)][j] = api.Rat{Num: []uint32{uint32(i)}}
		}
	}
	for i, row := range result {
		if slices.ContainsFunc(row, func(x api.Rat) bool { return x.Num[0] != uint32(i) }) {
			t.Errorf("%s: rows of the result share memory", call)
		}
	}
}

// The same row may be passed several times, and a list as a row and as a vector.
func TestSharedArguments(t *testing.T) {
	row := forms(read(t, "1/2 -3")[0])
	a := [][]api.Rat{row, row}
	if b, err := linear.Mul(a, a); err != nil || show(b) != "-5/4 15/2; -5/4 15/2" {
		t.Errorf("Mul = %s, %v", show(b), err)
	}
	if x, err := linear.Apply(a, row); err != nil || show([][]api.Rat{x}) != "37/4 37/4" {
		t.Errorf("Apply = %v, %v", x, err)
	}
	if b, pivots, err := linear.Reduce(a); err != nil || show(b) != "1 -6" || !slices.Equal(pivots, []int{0}) {
		t.Errorf("Reduce = %s, %v, %v", show(b), pivots, err)
	}
	if _, err := linear.Solve(a, row); err != api.ErrInfeasible {
		t.Errorf("Solve: %v", err)
	}
	if d, err := linear.Det(a); err != nil || !same(d, api.Rat{}) {
		t.Errorf("Det = %v, %v", d, err)
	}
}
