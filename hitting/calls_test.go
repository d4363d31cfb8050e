package hitting_test

import (
	"slices"
	"testing"

	"faultline/hitting"
)

// packing returns what Packing must return.
func packing(l []int) []int {
	var packed []int
	for _, s := range lowest(l) {
		if !slices.ContainsFunc(packed, func(other int) bool { return other&s != 0 }) {
			packed = append(packed, s)
		}
	}
	return packed
}

func TestPacking(t *testing.T) {
	lists := append(wideLists(6, 200), groups(12, 2), mixed(choose(14, 4)))
	for _, p := range someProblems() {
		lists = append(lists, p.l)
	}
	for _, l := range lists {
		got, err := hitting.Packing(l)
		listed(t, got, err, packing(l), nil, "Packing", l)
	}
}

// No sets, the empty set, and examples.
func TestPackingOfGivenLists(t *testing.T) {
	for _, c := range []struct{ l, want []int }{
		{nil, nil},
		{[]int{}, nil},
		{[]int{0}, []int{0}},
		{[]int{3, 0, 8}, []int{0}},
		{[]int{3, 6, 12}, []int{3, 12}},
		{[]int{12, 6, 3}, []int{3, 12}},
		{[]int{6, 12, 3, 15}, []int{3, 12}},
		{[]int{6, 3, 12, 6, 3}, []int{3, 12}},
		{[]int{6, 9, 3, 12}, []int{3, 12}},
		{[]int{7, 6, 24, 1}, []int{1, 6, 24}},
		{[]int{all}, []int{all}},
		{[]int{all, 1 << 23}, []int{1 << 23}},
		{[]int{6, 3}, []int{3}},
	} {
		got, err := hitting.Packing(c.l)
		listed(t, got, err, c.want, nil, "Packing", c.l)
	}
}

// call is a function with its results as a list, which is empty for zero values.
type call struct {
	name string
	f    func(l, other []int) ([]int, error)
}

func calls() []call {
	truth := func(ok bool, err error) ([]int, error) {
		if ok {
			return []int{1}, err
		}
		return nil, err
	}
	return []call{
		{"All", func(l, _ []int) ([]int, error) { return hitting.All(l) }},
		{"Least", func(l, _ []int) ([]int, error) {
			s, err := hitting.Least(l)
			return slices.DeleteFunc([]int{s}, func(s int) bool { return s == 0 }), err
		}},
		{"Cheapest", func(l, other []int) ([]int, error) {
			set, total, err := hitting.Cheapest(l, other)
			return slices.DeleteFunc([]int{set, total}, func(s int) bool { return s == 0 }), err
		}},
		{"Minimal", func(l, _ []int) ([]int, error) { return truth(hitting.Minimal(l, 5)) }},
		{"Dual", func(l, other []int) ([]int, error) { return truth(hitting.Dual(l, other)) }},
		{"Packing", func(l, _ []int) ([]int, error) { return hitting.Packing(l) }},
	}
}

// Every function returns the list errors first, and nothing else with them.
func TestListErrors(t *testing.T) {
	for _, bad := range badLists() {
		for _, c := range calls() {
			for _, other := range [][]int{nil, {7}, {1, 2, 3}} {
				got, err := c.f(bad.l, other)
				listed(t, got, err, nil, bad.want, c.name, len(bad.l), other)
			}
		}
	}
}

// As many sets as are permitted are no error, also if they are equal.
func TestListsOfMostSets(t *testing.T) {
	for _, l := range [][]int{slices.Repeat([]int{3}, 1024), choices(groups(10, 2))} {
		for _, c := range calls() {
			if _, err := c.f(l, slices.Repeat([]int{3}, 1024)); err != nil {
				t.Errorf("%s of 1024 sets: %v", c.name, err)
			}
		}
	}
}

// roomy returns a copy of a list with memory behind it.
func roomy(l []int) []int {
	return append(slices.Clone(l), -7, -8, -9)[:len(l)]
}

// No function changes its arguments, or the memory behind them, and results share no memory with them or with each
// other. Lists that are results themselves are among the arguments.
func TestMemory(t *testing.T) {
	cost := []int{5, 4, 3, 2, 1}
	for _, l := range [][]int{nil, {0}, {1}, {3, 12}, {1, 6}, {6, 3, 3, 1}, {7, 5, 24, 8, 9}, choices(groups(10, 2))} {
		for _, c := range calls() {
			x, y := roomy(l), roomy(cost)
			first, _ := c.f(x, y)
			second, _ := c.f(x, y)
			want := slices.Clone(second)
			for i := range first[:cap(first)] {
				first[:cap(first)][i] = -1
			}
			if !slices.Equal(second, want) {
				t.Errorf("%s of %v: two results share memory", c.name, l)
			}
			if !slices.Equal(x[:len(x)+3], roomy(l)[:len(l)+3]) || !slices.Equal(y[:len(y)+3], roomy(cost)[:len(cost)+3]) {
				t.Errorf("%s of %v: the memory of the arguments has changed", c.name, l)
			}
		}
	}
}
