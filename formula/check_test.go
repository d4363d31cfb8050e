package formula_test

import (
	"math"
	"slices"
	"testing"

	"faultline/api"
	"faultline/formula"
)

// checked reports a formula for which Check does not return what it must.
func checked(t *testing.T, f api.Formula, want error) {
	t.Helper()
	if err := formula.Check(f); err != want {
		t.Errorf("Check(%v) = %v, want %v", f, err, want)
	}
}

func TestCheckOfGoodFormulas(t *testing.T) {
	for _, f := range someFormulas() {
		checked(t, f, nil)
	}
}

// TestCheckOfNodes looks at nodes of every kind with every number of arguments and every K, and beyond.
func TestCheckOfNodes(t *testing.T) {
	for _, kind := range append(from(-3, 8), oddInts()...) {
		for args := range 20 {
			for _, k := range append(from(-3, 20), oddInts()...) {
				n := api.Node{Kind: kind, K: k, Args: from(0, args-1)}
				f := last(20, n)
				checked(t, f, fault(f))
			}
		}
	}
}

// Every kind has bounds of its own.
func TestCheckOfGivenNodes(t *testing.T) {
	for _, c := range []struct {
		n    api.Node
		want error
	}{
		{constant(0), nil},
		{constant(1), nil},
		{constant(2), api.ErrRange},
		{constant(-1), api.ErrRange},
		{node(api.NodeConst, 0), api.ErrShape},
		{node(api.NodeNot, 0), nil},
		{node(api.NodeNot), api.ErrShape},
		{node(api.NodeNot, 0, 1), api.ErrShape},
		{api.Node{Kind: api.NodeNot, K: 1, Args: []int{0}}, api.ErrForm},
		{node(api.NodeAnd), api.ErrShape},
		{node(api.NodeAnd, 0), nil},
		{node(api.NodeAnd, from(0, 15)...), nil},
		{node(api.NodeAnd, from(0, 16)...), api.ErrShape},
		{api.Node{Kind: api.NodeAnd, K: 2, Args: []int{0, 1}}, api.ErrForm},
		{node(api.NodeOr), api.ErrShape},
		{node(api.NodeOr, 1, 1), nil},
		{node(api.NodeOr, from(0, 15)...), nil},
		{node(api.NodeOr, from(0, 16)...), api.ErrShape},
		{api.Node{Kind: api.NodeOr, K: -1, Args: []int{0, 1}}, api.ErrForm},
		{vote(0), api.ErrShape},
		{vote(0, 0), api.ErrRange},
		{vote(1, 0), nil},
		{vote(2, 0), api.ErrRange},
		{vote(2, 0, 0), nil},
		{vote(16, from(0, 15)...), nil},
		{vote(17, from(0, 15)...), api.ErrRange},
		{vote(1, from(0, 16)...), api.ErrShape},
		{node(api.NodeXor), api.ErrShape},
		{node(api.NodeXor, 3), nil},
		{node(api.NodeXor, from(0, 15)...), nil},
		{node(api.NodeXor, from(0, 16)...), api.ErrShape},
		{api.Node{Kind: api.NodeXor, K: 1, Args: []int{0}}, api.ErrForm},
		{node(6, 0), api.ErrType},
		{node(-1), api.ErrType},
	} {
		checked(t, last(17, c.n), c.want)
	}
}

// An argument is an event or an earlier node, at every place of its node.
func TestCheckOfArguments(t *testing.T) {
	for _, vars := range []int{0, 1, 3, 24} {
		for _, number := range []int{0, 1, 5, 127} {
			for _, arg := range append(from(-2, 155), oddInts()...) {
				for place := range 3 {
					nodes := slices.Repeat([]api.Node{constant(1)}, 128)
					args := slices.Repeat([]int{max(0, vars+number-1)}, 3)
					args[place] = arg
					nodes[number] = node(api.NodeOr, args...)
					f := last(vars, nodes...)
					checked(t, f, fault(f))
				}
			}
		}
	}
}

// Top is an event or any node, also where there is none of both.
func TestCheckOfTop(t *testing.T) {
	for vars := range 25 {
		for _, count := range []int{0, 1, 2, 128} {
			for _, top := range append(from(-2, 155), oddInts()...) {
				f := api.Formula{Vars: vars, Nodes: slices.Repeat([]api.Node{constant(0)}, count), Top: top}
				var want error
				if top < 0 || top >= vars+count {
					want = api.ErrIndex
				}
				checked(t, f, want)
			}
		}
	}
}

// A formula has 0 to 24 events and at most 128 nodes.
func TestCheckOfLimits(t *testing.T) {
	for _, vars := range append(from(-3, 30), oddInts()...) {
		for _, count := range []int{0, 1, 127, 128, 129, 130, 1000} {
			f := api.Formula{Vars: vars, Nodes: slices.Repeat([]api.Node{constant(0)}, count), Top: 24}
			var want error
			switch {
			case vars < 0 || vars > 24:
				want = api.ErrRange
			case count > 128:
				want = api.ErrLarge
			case vars+count <= 24:
				want = api.ErrIndex
			}
			checked(t, f, want)
		}
	}
}

// step is a fault of a formula whose nodes have at least two arguments, and its error.
type step struct {
	name   string
	change func(f *api.Formula)
	want   error
}

// steps returns faults in the order in which Check looks for them.
func steps() []step {
	list := []step{
		{"events", func(f *api.Formula) { f.Vars = -1 }, api.ErrRange},
		{"nodes", func(f *api.Formula) { f.Nodes = append(f.Nodes, make([]api.Node, 128)...) }, api.ErrLarge},
	}
	for i := range 3 {
		kErr := error(api.ErrForm)
		if i == 1 {
			kErr = api.ErrRange
		}
		list = append(list,
			step{"kind", func(f *api.Formula) { f.Nodes[i].Kind = 6 }, api.ErrType},
			step{"shape", func(f *api.Formula) { f.Nodes[i].Args = append(f.Nodes[i].Args, make([]int, 16)...) }, api.ErrShape},
			step{"argument", func(f *api.Formula) { f.Nodes[i].Args[1] = 3 + i }, api.ErrIndex},
			step{"K", func(f *api.Formula) { f.Nodes[i].K = 4 }, kErr},
		)
	}
	return append(list, step{"Top", func(f *api.Formula) { f.Top = 6 }, api.ErrIndex})
}

// Of several faults the first one counts: all of a node before those of the next one.
func TestCheckOrder(t *testing.T) {
	list := steps()
	for i, first := range list {
		for j, second := range list[i:] {
			f := last(3, node(api.NodeAnd, 0, 1), vote(2, 0, 2, 3), node(api.NodeXor, 4, 0))
			// The later one is made first, so that the extra nodes come last.
			second.change(&f)
			if j > 0 {
				first.change(&f)
			}
			if err := formula.Check(f); err != first.want {
				t.Errorf("%d %s, %d %s: %v, want %v", i, first.name, i+j, second.name, err, first.want)
			}
		}
	}
}

func TestValid(t *testing.T) {
	for vars := range 27 {
		for _, count := range []int{0, 1, 3, 128, 131} {
			// The nodes themselves do not matter, nor does Top.
			f := api.Formula{Vars: vars, Nodes: make([]api.Node, count), Top: -5}
			for _, arg := range append(from(-3, 170), oddInts()...) {
				want := slices.Contains(from(0, vars+count-1), arg)
				if formula.Valid(f, arg) != want {
					t.Errorf("Valid of %d events, %d nodes, %d: %v", vars, count, arg, !want)
				}
			}
		}
	}
}

// Vars may be any number: below 0 nothing is valid, and a great one has no sum with the number of nodes.
func TestValidOfOddFormulas(t *testing.T) {
	for _, c := range []struct {
		vars, nodes, arg int
		want             bool
	}{
		{-1, 0, 0, false},
		{-1, 3, 0, false},
		{-1, 3, 1, false},
		{-1, 3, -1, false},
		{math.MinInt, 3, 0, false},
		{math.MinInt, 3, math.MaxInt, false},
		{math.MinInt, 3, math.MinInt, false},
		{25, 0, 24, true},
		{25, 0, 25, false},
		{math.MaxInt, 0, math.MaxInt, false},
		{math.MaxInt, 0, math.MaxInt - 1, true},
		{math.MaxInt, 1, math.MaxInt, true},
		{math.MaxInt, 3, math.MaxInt, true},
		{math.MaxInt, 3, 0, true},
		{math.MaxInt, 3, -1, false},
		{math.MaxInt, 3, math.MinInt, false},
		{math.MaxInt - 2, 2, math.MaxInt - 1, true},
		{math.MaxInt - 2, 2, math.MaxInt, false},
	} {
		f := api.Formula{Vars: c.vars, Nodes: make([]api.Node, c.nodes)}
		if got := formula.Valid(f, c.arg); got != c.want {
			t.Errorf("Valid of %d events, %d nodes, %d: %v", c.vars, c.nodes, c.arg, got)
		}
	}
}
