package ternary_test

import (
	"slices"
	"testing"

	"faultline/api"
	"faultline/ternary"
)

// evaluated compares all functions with the chapter's table, where the events have the values.
func evaluated(t *testing.T, f api.Formula, events []int) {
	t.Helper()
	c, all := cubeOf(events), allValues(f, events)
	values, err := ternary.Values(f, c)
	listed(t, values, err, all[f.Vars:], nil, "Values", f, c)
	value, err := ternary.Value(f, c)
	got(t, value, err, all[f.Top], nil, "Value", f, c)
	decided, err := ternary.Decided(f, c)
	got(t, decided, err, all[f.Top] != unknown, nil, "Decided", f, c)
	next, err := ternary.Next(f, c)
	got(t, next, err, nextOf(f, all, f.Top), nil, "Next", f, c)
}

func TestTruthValues(t *testing.T) {
	if ternary.False != 0 || ternary.True != 1 || ternary.Unknown != 2 {
		t.Errorf("the truth values are %d, %d, %d", ternary.False, ternary.True, ternary.Unknown)
	}
}

func TestAllFunctions(t *testing.T) {
	for _, f := range someFormulas() {
		for _, events := range someValues(f.Vars) {
			evaluated(t, f, events)
		}
	}
}

// The values of each kind with up to three arguments.
func TestValuesOfKinds(t *testing.T) {
	for _, c := range []struct {
		args                                  []int
		and, or, xor, one, two, three, negate int
	}{
		{[]int{no}, no, no, no, no, no, no, yes},
		{[]int{yes}, yes, yes, yes, yes, no, no, no},
		{[]int{unknown}, unknown, unknown, unknown, unknown, no, no, unknown},
		{[]int{no, no}, no, no, no, no, no, no, yes},
		{[]int{no, yes}, no, yes, yes, yes, no, no, yes},
		{[]int{no, unknown}, no, unknown, unknown, unknown, no, no, yes},
		{[]int{yes, no}, no, yes, yes, yes, no, no, no},
		{[]int{yes, yes}, yes, yes, no, yes, yes, no, no},
		{[]int{yes, unknown}, unknown, yes, unknown, yes, unknown, no, no},
		{[]int{unknown, no}, no, unknown, unknown, unknown, no, no, unknown},
		{[]int{unknown, yes}, unknown, yes, unknown, yes, unknown, no, unknown},
		{[]int{unknown, unknown}, unknown, unknown, unknown, unknown, unknown, no, unknown},
		{[]int{no, yes, unknown}, no, yes, unknown, yes, unknown, no, yes},
		{[]int{unknown, no, yes}, no, yes, unknown, yes, unknown, no, unknown},
		{[]int{yes, yes, unknown}, unknown, yes, unknown, yes, yes, unknown, no},
		{[]int{yes, unknown, unknown}, unknown, yes, unknown, yes, unknown, unknown, no},
		{[]int{no, unknown, unknown}, no, unknown, unknown, unknown, unknown, no, yes},
		{[]int{no, no, unknown}, no, unknown, unknown, unknown, no, no, yes},
		{[]int{yes, yes, yes}, yes, yes, yes, yes, yes, yes, no},
		{[]int{yes, yes, no}, no, yes, no, yes, yes, no, no},
		{[]int{unknown, unknown, unknown}, unknown, unknown, unknown, unknown, unknown, unknown, unknown},
	} {
		vars := len(c.args)
		events := from(0, vars-1)
		nodes := []api.Node{node(api.NodeAnd, events...), node(api.NodeOr, events...), node(api.NodeXor, events...), node(api.NodeNot, 0)}
		want := []int{c.and, c.or, c.xor, c.negate}
		for k := 1; k <= vars; k++ {
			nodes = append(nodes, vote(k, events...))
			want = append(want, []int{c.one, c.two, c.three}[k-1])
		}
		f := last(vars, nodes...)
		values, err := ternary.Values(f, cubeOf(c.args))
		listed(t, values, err, want, nil, "Values", f, c.args)
	}
}

// A node with every number of arguments, of which every number is false and every number true, with every K.
func TestValuesOfWideNodes(t *testing.T) {
	three := func(isTrue, isFalse bool) int {
		switch {
		case isTrue:
			return yes
		case isFalse:
			return no
		}
		return unknown
	}
	for n := 1; n <= 16; n++ {
		events := from(4, 3+n)
		nodes := []api.Node{node(api.NodeAnd, events...), node(api.NodeOr, events...), node(api.NodeXor, events...)}
		for k := 1; k <= n; k++ {
			nodes = append(nodes, vote(k, events...))
		}
		f := last(20, nodes...)
		for trues := range n + 1 {
			for falses := range n - trues + 1 {
				all := trues+falses == n
				want := []int{three(trues == n, falses > 0), three(trues > 0, falses == n), three(all && trues%2 == 1, all && trues%2 == 0)}
				for k := 1; k <= n; k++ {
					want = append(want, three(trues >= k, n-falses < k))
				}
				known := slices.Concat(slices.Repeat([]int{yes}, trues), slices.Repeat([]int{unknown}, n-trues-falses), slices.Repeat([]int{no}, falses))
				for range 2 {
					c := cubeOf(append([]int{no, yes, unknown, unknown}, known...))
					values, err := ternary.Values(f, c)
					listed(t, values, err, want, nil, "Values", f, c)
					slices.Reverse(known)
				}
			}
		}
	}
}

func TestExamples(t *testing.T) {
	twice := last(1, node(api.NodeXor, 0, 0))
	consts := last(0, constant(0), constant(1), node(api.NodeNot, 0), node(api.NodeXor, 1, 1, 2), vote(2, 0, 1, 2))
	for _, c := range []struct {
		f           api.Formula
		cube        api.Cube
		value, next int
	}{
		{example(), api.Cube{Yes: 1}, yes, -1},
		{example(), api.Cube{No: 3}, no, -1},
		{example(), api.Cube{No: 1}, unknown, 1},
		{example(), api.Cube{}, unknown, 0},
		{example(), api.Cube{Yes: 2, No: 1}, unknown, 2},
		{example(), api.Cube{Yes: 4, No: 1}, unknown, 1},
		{example(), api.Cube{Yes: 6}, yes, -1},
		{example(), api.Cube{No: 4}, unknown, 0},
		{example(), api.Cube{Yes: 7}, yes, -1},
		{example(), api.Cube{Yes: 2, No: 5}, no, -1},
		{twice, api.Cube{}, unknown, 0},
		{twice, api.Cube{Yes: 1}, no, -1},
		{twice, api.Cube{No: 1}, no, -1},
		// An event or its negation, always true, and their and, never.
		{last(1, node(api.NodeNot, 0), node(api.NodeOr, 0, 1)), api.Cube{}, unknown, 0},
		{last(1, node(api.NodeNot, 0), node(api.NodeAnd, 1, 0)), api.Cube{}, unknown, 0},
		// An event counts twice if it occurs twice.
		{last(3, vote(2, 1, 1, 0)), api.Cube{Yes: 2}, yes, -1},
		{last(3, vote(2, 1, 1, 0)), api.Cube{No: 2}, no, -1},
		{last(3, vote(2, 1, 1, 0)), api.Cube{Yes: 1}, unknown, 1},
		{last(3, vote(2, 1, 1, 0)), api.Cube{No: 1}, unknown, 1},
		{consts, api.Cube{}, yes, -1},
		{last(24, node(api.NodeAnd, 22, 23)), api.Cube{Yes: 1 << 22}, unknown, 23},
		{last(24, node(api.NodeAnd, 22, 23)), api.Cube{Yes: 1<<23 - 1}, unknown, 23},
		{last(24, node(api.NodeAnd, 22, 23)), api.Cube{No: 1 << 23}, no, -1},
		{last(24, node(api.NodeAnd, 22, 23)), api.Cube{Yes: 3 << 22}, yes, -1},
	} {
		value, err := ternary.Value(c.f, c.cube)
		got(t, value, err, c.value, nil, "Value", c.f, c.cube)
		decided, err := ternary.Decided(c.f, c.cube)
		got(t, decided, err, c.value != unknown, nil, "Decided", c.f, c.cube)
		next, err := ternary.Next(c.f, c.cube)
		got(t, next, err, c.next, nil, "Next", c.f, c.cube)
	}
	values, err := ternary.Values(consts, api.Cube{})
	listed(t, values, err, []int{no, yes, yes, yes, yes}, nil, "Values", consts)
}

// Top may be any event or node, also one that is not the last, and there may be no node.
func TestEveryTop(t *testing.T) {
	for top := range 5 {
		f := example()
		f.Top = top
		for _, events := range someValues(3) {
			evaluated(t, f, events)
		}
	}
	for top := range 24 {
		f := api.Formula{Vars: 24, Top: top}
		for _, v := range []int{no, yes, unknown} {
			for _, other := range []int{no, yes, unknown} {
				events := slices.Repeat([]int{other}, 24)
				events[top] = v
				evaluated(t, f, events)
			}
		}
	}
}

// Next takes the first argument that is unknown, at every node, whatever the numbers of the arguments.
func TestNextTakesTheFirst(t *testing.T) {
	f := last(6, node(api.NodeAnd, 5, 4), node(api.NodeOr, 3, 2), node(api.NodeXor, 7, 1, 6, 0))
	for _, c := range []struct {
		cube api.Cube
		next int
	}{
		{api.Cube{}, 3},
		{api.Cube{No: 8}, 2},
		{api.Cube{Yes: 8}, 1},
		{api.Cube{Yes: 4}, 1},
		{api.Cube{No: 12}, 1},
		{api.Cube{Yes: 4 + 2}, 5},
		{api.Cube{Yes: 4, No: 2}, 5},
		{api.Cube{Yes: 4 + 2 + 32}, 4},
		{api.Cube{Yes: 4 + 2 + 16}, 5},
		{api.Cube{Yes: 4 + 2, No: 32}, 0},
		{api.Cube{Yes: 4 + 2, No: 16}, 0},
		{api.Cube{Yes: 4 + 2 + 1, No: 16}, -1},
	} {
		next, err := ternary.Next(f, c.cube)
		got(t, next, err, c.next, nil, "Next", f, c.cube)
	}
}

// Nodes with the one before them again and again: there are very many ways from Top to the event.
func TestManyWays(t *testing.T) {
	for kind := api.NodeNot; kind <= api.NodeXor; kind++ {
		f := api.Formula{Vars: 1}
		for i := range 128 {
			n := node(kind, slices.Repeat([]int{i}, slices.Max(counts(kind)))...)
			if kind == api.NodeVote {
				n.K = 1 + i%16
			}
			f.Nodes = append(f.Nodes, n)
		}
		for top := range 129 {
			f.Top = top
			for v := range 3 {
				evaluated(t, f, []int{v})
			}
		}
	}
}
