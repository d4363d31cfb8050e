package family_test

import (
	"slices"
	"testing"

	"faultline/api"
	"faultline/family"
)

// call is a function with its result as a list, which is empty for the zero value.
type call struct {
	name string
	f    func(a, b []int) ([]int, error)
}

// truth returns a list that is empty if ok is false.
func truth(ok bool, err error) ([]int, error) {
	if ok {
		return []int{1}, err
	}
	return nil, err
}

// callsOfOne returns the functions of one list, which ignore the other one.
func callsOfOne() []call {
	return []call{
		{"Check", func(a, _ []int) ([]int, error) { return nil, family.Check(a) }},
		{"Sort", func(a, _ []int) ([]int, error) { return family.Sort(a) }},
		{"Minimal", func(a, _ []int) ([]int, error) { return family.Minimal(a) }},
		{"Maximal", func(a, _ []int) ([]int, error) { return family.Maximal(a) }},
		{"Covers", func(a, _ []int) ([]int, error) { return truth(family.Covers(a, all)) }},
		{"Meets", func(a, _ []int) ([]int, error) { return truth(family.Meets(a, all)) }},
		{"Restrict", func(a, _ []int) ([]int, error) { return family.Restrict(a, 1, 2) }},
		{"Restrict with nothing", func(a, _ []int) ([]int, error) { return family.Restrict(a, 0, 0) }},
		{"Support", func(a, _ []int) ([]int, error) {
			s, err := family.Support(a)
			list, _ := truth(s != 0, nil)
			return list, err
		}},
		{"Sizes", func(a, _ []int) ([]int, error) { return family.Sizes(a) }},
		{"Text", func(a, _ []int) ([]int, error) {
			text, err := family.Text(a)
			return make([]int, len(text)), err
		}},
	}
}

// callsOfTwo returns the functions of two lists.
func callsOfTwo() []call {
	return []call{
		{"Plus", family.Plus},
		{"Product", family.Product},
		{"Same", func(a, b []int) ([]int, error) { return truth(family.Same(a, b)) }},
	}
}

// Every function returns the list errors first, and nothing else with them.
func TestListErrors(t *testing.T) {
	for _, bad := range badLists() {
		for _, c := range callsOfOne() {
			got, err := c.f(bad.l, nil)
			listed(t, got, err, nil, bad.want, c.name, len(bad.l))
		}
		for _, c := range callsOfTwo() {
			for _, good := range [][]int{nil, {0}, {3, 1, 1}, many(1024, 0)} {
				got, err := c.f(bad.l, good)
				listed(t, got, err, nil, bad.want, c.name, len(bad.l), len(good))
				got, err = c.f(good, bad.l)
				listed(t, got, err, nil, bad.want, c.name, len(good), len(bad.l))
			}
			for _, other := range badLists() {
				got, err := c.f(bad.l, other.l)
				listed(t, got, err, nil, bad.want, c.name, len(bad.l), len(other.l))
			}
		}
	}
}

// As many sets as are permitted are no error, also if they are equal.
func TestListsOfMostSets(t *testing.T) {
	for _, l := range [][]int{make([]int, 1024), many(1024, 0)} {
		for _, c := range append(callsOfOne(), callsOfTwo()...) {
			var want error
			if c.name == "Check" && l[0] == 0 {
				want = api.ErrOrder
			}
			if _, err := c.f(l, l); err != want {
				t.Errorf("%s of 1024 sets: %v, want %v", c.name, err, want)
			}
		}
	}
}

// roomy returns a copy of a list with memory behind it.
func roomy(l []int) []int {
	return append(slices.Clone(l), -7, -8, -9)[:len(l)]
}

// No function changes its arguments, or the memory behind them, and results share no memory with them or with each
// other. Sorted lists and families are among the arguments, which are results themselves.
func TestMemory(t *testing.T) {
	lists := [][]int{nil, {0}, {5}, {6, 3, 3, 1}, {1, 6}, {4, 8, 3}, {7, 5, 1, 8, 24}, many(1024, 0)}
	for _, c := range append(callsOfOne(), callsOfTwo()...) {
		for _, a := range lists {
			for _, b := range lists {
				x, y := roomy(a), roomy(b)
				first, _ := c.f(x, y)
				second, _ := c.f(x, y)
				want := slices.Clone(second)
				for i := range first[:cap(first)] {
					first[:cap(first)][i] = -1
				}
				if !slices.Equal(second, want) {
					t.Errorf("%s of %d and %d sets: two results share memory", c.name, len(a), len(b))
				}
				if !slices.Equal(x[:len(a)+3], roomy(a)[:len(a)+3]) || !slices.Equal(y[:len(b)+3], roomy(b)[:len(b)+3]) {
					t.Errorf("%s of %d and %d sets: the memory of the arguments has changed", c.name, len(a), len(b))
				}
			}
		}
	}
}

// A list may be both arguments.
func TestSharedArguments(t *testing.T) {
	l := []int{6, 3, 3, 1}
	for _, c := range callsOfTwo() {
		want := []int{1, 6}
		if c.name == "Same" {
			want = []int{1}
		}
		got, err := c.f(l, l)
		listed(t, got, err, want, nil, c.name, l)
		got, err = c.f(l[:3], l[2:])
		if c.name != "Same" {
			listed(t, got, err, lowest(map[string][]int{"Plus": l, "Product": joins(l[:3], l[2:])}[c.name]), nil, c.name, l)
		}
	}
}
