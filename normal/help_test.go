package normal_test

import (
	"math"
	"math/rand/v2"
	"slices"
	"testing"

	"faultline/api"
	"faultline/formula"
)

// node returns a node without a K.
func node(kind int, args ...int) api.Node {
	return api.Node{Kind: kind, Args: args}
}

// vote returns a vote of at least k of the arguments.
func vote(k int, args ...int) api.Node {
	return api.Node{Kind: api.NodeVote, K: k, Args: args}
}

// constant returns a const.
func constant(k int) api.Node {
	return api.Node{Kind: api.NodeConst, K: k}
}

// last returns the formula of the nodes whose Top is the last one.
func last(vars int, nodes ...api.Node) api.Formula {
	return api.Formula{Vars: vars, Nodes: nodes, Top: vars + len(nodes) - 1}
}

// event returns the formula that is an event, without nodes.
func event(vars, number int) api.Formula {
	return api.Formula{Vars: vars, Top: number}
}

// from returns the ints from least to most.
func from(least, most int) []int {
	var list []int
	for i := least; i <= most; i++ {
		list = append(list, i)
	}
	return list
}

// oddInts returns ints that are in the range of hardly anything.
func oddInts() []int {
	return []int{math.MinInt, math.MinInt + 1, -1 << 32, -129, -25, -2, -1, 25, 129, 153, 1 << 32, math.MaxInt - 128, math.MaxInt - 1, math.MaxInt}
}

// someNodes returns each node of the kinds with up to most of the given number of arguments.
func someNodes(arguments, most int) []api.Node {
	list := []api.Node{constant(0), constant(1)}
	lists := [][]int{{}}
	for n := 1; n <= most; n++ {
		var longer [][]int
		for _, args := range lists {
			for a := range arguments {
				longer = append(longer, append(slices.Clone(args), a))
			}
		}
		lists = longer
		for _, args := range lists {
			if n == 1 {
				list = append(list, node(api.NodeNot, args...))
			}
			list = append(list, node(api.NodeAnd, args...), node(api.NodeOr, args...), node(api.NodeXor, args...))
			for k := 1; k <= n; k++ {
				list = append(list, vote(k, args...))
			}
		}
	}
	return list
}

// smallFormulas returns the formulas of two events with up to two nodes of up to two arguments, and those of up to
// three events with one node of up to three arguments, each with every Top.
func smallFormulas() []api.Formula {
	var list []api.Formula
	add := func(vars int, nodes ...api.Node) {
		for top := range vars + len(nodes) {
			list = append(list, api.Formula{Vars: vars, Nodes: nodes, Top: top})
		}
	}
	for vars := range 4 {
		add(vars)
		for _, n := range someNodes(vars, 3) {
			add(vars, n)
		}
	}
	for _, m := range someNodes(2, 2) {
		for _, n := range someNodes(3, 2) {
			add(2, m, n)
		}
	}
	return list
}

// randomNode returns a node of up to most arguments, of which many are among the latest ones.
func randomNode(r *rand.Rand, arguments, most int) api.Node {
	n := api.Node{Kind: r.IntN(6)}
	if arguments == 0 {
		n.Kind = api.NodeConst
	}
	count := 1 + r.IntN(most)
	switch n.Kind {
	case api.NodeConst:
		n.K = r.IntN(2)
		return n
	case api.NodeNot:
		count = 1
	case api.NodeVote:
		n.K = 1 + r.IntN(count)
	}
	for range count {
		if r.IntN(3) == 0 {
			n.Args = append(n.Args, r.IntN(arguments))
		} else {
			n.Args = append(n.Args, max(0, arguments-1-r.IntN(6)))
		}
	}
	return n
}

// randomFormulas returns formulas of up to vars events and up to nodes nodes.
func randomFormulas(seed uint64, count, vars, nodes int) []api.Formula {
	r := rand.New(rand.NewPCG(11, seed))
	var list []api.Formula
	for range count {
		f := api.Formula{Vars: r.IntN(vars + 1)}
		most := 1 + r.IntN(16)
		for i := range 1 + r.IntN(nodes) {
			f.Nodes = append(f.Nodes, randomNode(r, f.Vars+i, most))
		}
		f.Top = f.Vars + len(f.Nodes) - 1
		if r.IntN(4) == 0 {
			f.Top = r.IntN(f.Vars + len(f.Nodes))
		}
		list = append(list, f)
	}
	return list
}

// largest returns formulas of all events and as many nodes as there may be, with as many arguments as they may have:
// one of which Top needs all nodes, one of which it needs every second one, and one of which it needs none.
func largest() []api.Formula {
	var list []api.Formula
	for step := 1; step <= 2; step++ {
		f := api.Formula{Vars: 24}
		for i := range 128 {
			n := api.Node{Kind: api.NodeAnd + i%4}
			for j := range 16 {
				n.Args = append(n.Args, max(i%2, 24+i-step*(1+j)))
			}
			if n.Kind == api.NodeVote {
				n.K = 1 + i%16
			}
			f.Nodes = append(f.Nodes, n)
		}
		f.Top = 24 + 127
		list = append(list, f)
	}
	none := list[0]
	none.Top = 23
	return append(list, none)
}

// someFormulas returns formulas of all kinds.
func someFormulas() []api.Formula {
	return slices.Concat(smallFormulas(), randomFormulas(1, 500, 6, 10), randomFormulas(2, 200, 24, 128), largest())
}

// fewFormulas returns every third one of the formulas of all kinds, for what is tried in many ways with each of them.
func fewFormulas() []api.Formula {
	var list []api.Formula
	for i, f := range someFormulas() {
		if i%3 == 0 {
			list = append(list, f)
		}
	}
	return list
}

// someSets returns sets of failed events: all of them for few events.
func someSets(vars int) []int {
	if vars <= 6 {
		return from(0, 1<<vars-1)
	}
	r := rand.New(rand.NewPCG(11, uint64(vars)))
	list := []int{0, 1, 1 << (vars - 1), 1<<vars - 1}
	for range 12 {
		list = append(list, r.IntN(1<<vars), r.IntN(1<<vars)|r.IntN(1<<vars), r.IntN(1<<vars)&r.IntN(1<<vars))
	}
	return list
}

// someCubes returns cubes of the events: all of them for few events.
func someCubes(vars int) []api.Cube {
	r := rand.New(rand.NewPCG(11, uint64(vars)))
	var list []api.Cube
	if vars > 3 {
		for range 12 {
			a, b := r.IntN(1<<vars), r.IntN(1<<vars)
			list = append(list, api.Cube{Yes: a &^ b, No: b &^ a}, api.Cube{Yes: a, No: 1<<vars - 1 - a})
		}
		return append(list, api.Cube{}, api.Cube{Yes: 1<<vars - 1}, api.Cube{No: 1<<vars - 1})
	}
	for yes := range 1 << vars {
		for no := range 1 << vars {
			if yes&no == 0 {
				list = append(list, api.Cube{Yes: yes, No: no})
			}
		}
	}
	return list
}

// same reports whether two formulas have the same parts.
func same(f, g api.Formula) bool {
	return f.Vars == g.Vars && f.Top == g.Top && slices.EqualFunc(f.Nodes, g.Nodes, func(m, n api.Node) bool {
		return m.Kind == n.Kind && m.K == n.K && slices.Equal(m.Args, n.Args)
	})
}

// copied returns a formula of the same parts in memory of its own, with other values behind all slices.
func copied(f api.Formula) api.Formula {
	nodes := make([]api.Node, 0, len(f.Nodes)+1)
	for _, n := range f.Nodes {
		n.Args = append(slices.Clone(n.Args), -7, -8)[:len(n.Args)]
		nodes = append(nodes, n)
	}
	f.Nodes = append(nodes, node(-7, -8))[:len(nodes)]
	return f
}

// formed reports a call that does not return the formula and the error wanted. With an error the formula is the zero
// value.
func formed(t *testing.T, result api.Formula, err error, want api.Formula, fault error, call string, args ...any) {
	t.Helper()
	if fault != nil {
		want = api.Formula{}
	}
	if !same(result, want) || err != fault {
		t.Errorf("%s%v = %v, %v, want %v, %v", call, args, result, err, want, fault)
	}
}

// value returns the value of a formula that must have one.
func value(t *testing.T, f api.Formula, failed int) bool {
	t.Helper()
	v, err := formula.Value(f, failed)
	if err != nil {
		t.Fatalf("Value(%v, %v): %v", f, failed, err)
	}
	return v
}

// agrees reports a set for which a formula has another value than the one wanted.
func agrees(t *testing.T, f api.Formula, want func(failed int) bool, call string, args ...any) {
	t.Helper()
	for _, failed := range someSets(f.Vars) {
		if v := value(t, f, failed); v != want(failed) {
			t.Errorf("%s%v = %v, which is %v for %d", call, args, f, v, failed)
		}
	}
}

// kinds returns how many nodes of a formula are of each kind.
func kinds(f api.Formula) [6]int {
	var list [6]int
	for _, n := range f.Nodes {
		list[n.Kind]++
	}
	return list
}
