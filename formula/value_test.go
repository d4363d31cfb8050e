package formula_test

import (
	"slices"
	"testing"

	"faultline/api"
	"faultline/formula"
)

// evaluated compares Value and Values with the chapter's table.
func evaluated(t *testing.T, f api.Formula, failed int) {
	t.Helper()
	values, err := formula.Values(f, failed)
	listed(t, values, err, valuesOf(f, failed), nil, "Values", f, failed)
	value, err := formula.Value(f, failed)
	got(t, value, err, worldOf(f, failed).value(f, f.Top), nil, "Value", f, failed)
}

func TestValues(t *testing.T) {
	for _, f := range someFormulas() {
		for _, failed := range someSets(f.Vars) {
			evaluated(t, f, failed)
		}
	}
}

// A node with every number of arguments, of which every number is true, with every K.
func TestValuesOfWideNodes(t *testing.T) {
	for n := 1; n <= 16; n++ {
		events := from(4, 3+n)
		nodes := []api.Node{node(api.NodeAnd, events...), node(api.NodeOr, events...), node(api.NodeXor, events...)}
		for k := 1; k <= n; k++ {
			nodes = append(nodes, vote(k, events...))
		}
		f := last(20, nodes...)
		for trues := range n + 1 {
			want := []bool{trues == n, trues > 0, trues%2 == 1}
			for k := 1; k <= n; k++ {
				want = append(want, trues >= k)
			}
			// The first of the events, and the last ones.
			for _, failed := range []int{(1<<trues - 1) << 4, (1<<trues - 1) << (4 + n - trues)} {
				values, err := formula.Values(f, failed)
				listed(t, values, err, want, nil, "Values", f, failed)
			}
		}
	}
}

func TestValuesOfGivenFormulas(t *testing.T) {
	twice := last(2, vote(2, 0, 0, 1), node(api.NodeXor, 0, 0), node(api.NodeXor, 0, 0, 1), vote(3, 0, 0, 1), node(api.NodeXor, 1, 1, 1))
	consts := last(0, constant(0), constant(1), node(api.NodeNot, 0), node(api.NodeXor, 1, 1, 2), vote(2, 0, 1, 2), node(api.NodeOr, 0))
	for _, c := range []struct {
		f      api.Formula
		failed int
		want   []bool
	}{
		{example(), 0, []bool{false, false}},
		{example(), 1, []bool{false, false}},
		{example(), 2, []bool{false, false}},
		{example(), 3, []bool{true, true}},
		{example(), 4, []bool{false, false}},
		{example(), 5, []bool{false, true}},
		{example(), 6, []bool{false, false}},
		{example(), 7, []bool{true, true}},
		{twice, 0, []bool{false, false, false, false, false}},
		{twice, 1, []bool{true, false, false, false, false}},
		{twice, 2, []bool{false, false, true, false, true}},
		{twice, 3, []bool{true, false, true, true, true}},
		{consts, 0, []bool{false, true, true, true, true, false}},
		{last(24, node(api.NodeAnd, 23)), 1 << 23, []bool{true}},
		{last(24, node(api.NodeAnd, 23)), 1<<23 - 1, []bool{false}},
		{last(24, node(api.NodeNot, 0)), 1, []bool{false}},
		{last(24, node(api.NodeNot, 0)), 1<<24 - 2, []bool{true}},
	} {
		values, err := formula.Values(c.f, c.failed)
		listed(t, values, err, c.want, nil, "Values", c.f, c.failed)
		value, err := formula.Value(c.f, c.failed)
		got(t, value, err, c.want[len(c.want)-1], nil, "Value", c.f, c.failed)
	}
}

// Top may be any event or node, also one that is not the last, and there may be no node.
func TestValueOfEveryTop(t *testing.T) {
	for top := range 5 {
		f := example()
		f.Top = top
		for failed := range 8 {
			evaluated(t, f, failed)
		}
	}
	for top := range 24 {
		f := api.Formula{Vars: 24, Top: top}
		for _, failed := range []int{0, 1 << top, 1<<24 - 1, 1<<24 - 1 - 1<<top} {
			evaluated(t, f, failed)
			value, err := formula.Value(f, failed)
			got(t, value, err, failed>>top%2 == 1, nil, "Value", f, failed)
		}
	}
}

// Many nodes one after the other, each with the one before it.
func TestValueOfChains(t *testing.T) {
	nots := api.Formula{Vars: 1}
	xors := api.Formula{Vars: 1}
	for i := range 128 {
		nots.Nodes = append(nots.Nodes, node(api.NodeNot, i))
		xors.Nodes = append(xors.Nodes, node(api.NodeXor, slices.Repeat([]int{i}, 15)...))
	}
	for top := range 129 {
		for failed := range 2 {
			nots.Top, xors.Top = top, top
			value, err := formula.Value(nots, failed)
			got(t, value, err, (failed+top)%2 == 1, nil, "Value of nots", top, failed)
			value, err = formula.Value(xors, failed)
			got(t, value, err, failed == 1, nil, "Value of xors", top, failed)
		}
	}
}

// A set has events of the formula only.
func TestSetsOutOfRange(t *testing.T) {
	for vars := range 25 {
		f := last(vars, constant(1))
		for _, failed := range []int{0, 1<<vars - 1} {
			value, err := formula.Value(f, failed)
			got(t, value, err, true, nil, "Value", f, failed)
			values, err := formula.Values(f, failed)
			listed(t, values, err, []bool{true}, nil, "Values", f, failed)
		}
		for _, failed := range append(oddInts(), 1<<vars, 1<<vars+1, 1<<24, 1<<24+1, -1<<vars) {
			if failed >= 0 && failed < 1<<vars {
				continue
			}
			value, err := formula.Value(f, failed)
			got(t, value, err, false, api.ErrRange, "Value", f, failed)
			values, err := formula.Values(f, failed)
			listed(t, values, err, nil, api.ErrRange, "Values", f, failed)
		}
	}
}
