package prime_test

import (
	"cmp"
	"math/bits"
	"math/rand/v2"
	"slices"
	"testing"

	"faultline/api"
	"faultline/formula"
)

// node returns a node without a K.
func node(kind int, args ...int) api.Node {
	return api.Node{Kind: kind, Args: args}
}

// vote returns a vote of at least k of the arguments.
func vote(k int, args ...int) api.Node {
	return api.Node{Kind: api.NodeVote, K: k, Args: args}
}

// constant returns a const.
func constant(k int) api.Node {
	return api.Node{Kind: api.NodeConst, K: k}
}

// last returns the formula of the nodes whose Top is the last one.
func last(vars int, nodes ...api.Node) api.Formula {
	return api.Formula{Vars: vars, Nodes: nodes, Top: vars + len(nodes) - 1}
}

// from returns the ints from least to most.
func from(least, most int) []int {
	var list []int
	for i := least; i <= most; i++ {
		list = append(list, i)
	}
	return list
}

// example is the formula of the chapter's example: event 0 and not event 1, or events 1 and 2.
func example() api.Formula {
	return last(3, node(api.NodeNot, 1), node(api.NodeAnd, 0, 3), node(api.NodeAnd, 1, 2), node(api.NodeOr, 4, 5))
}

// between returns the formula that is true if at least low and at most high of the events have failed.
func between(low, high, vars int, events ...int) api.Formula {
	return last(vars, vote(low, events...), vote(high+1, events...), node(api.NodeNot, vars+1), node(api.NodeAnd, vars, vars+2))
}

// parity returns the exclusive or of the events.
func parity(vars int, events ...int) api.Formula {
	return last(vars, node(api.NodeXor, events...))
}

// smallFormulas returns formulas of up to two events with up to two nodes of up to two arguments, each with every Top.
func smallFormulas() []api.Formula {
	var list []api.Formula
	add := func(vars int, nodes ...api.Node) {
		for top := range vars + len(nodes) {
			list = append(list, api.Formula{Vars: vars, Nodes: nodes, Top: top})
		}
	}
	for vars := range 3 {
		add(vars)
		for _, m := range pairNodes(vars) {
			add(vars, m)
			for _, n := range pairNodes(vars + 1) {
				add(vars, m, n)
			}
		}
	}
	return list
}

// pairNodes returns the nodes of all kinds with up to two of so many arguments.
func pairNodes(arguments int) []api.Node {
	list := []api.Node{constant(0), constant(1)}
	for i := range arguments {
		list = append(list, node(api.NodeNot, i))
		for j := range arguments {
			list = append(list, node(api.NodeAnd, i, j), node(api.NodeOr, i, j), node(api.NodeXor, i, j), vote(1, i, j), vote(2, i, j))
		}
	}
	return list
}

// randomFormulas returns formulas of so many events, of which Top needs no others than those given, with up to nodes
// nodes, whose arguments are many or few.
func randomFormulas(seed uint64, count, nodes, vars int, events ...int) []api.Formula {
	r := rand.New(rand.NewPCG(13, seed))
	var list []api.Formula
	for range count {
		f := api.Formula{Vars: vars}
		arguments, most := slices.Clone(events), 2+r.IntN(4)
		for i := range 1 + r.IntN(nodes) {
			f.Nodes = append(f.Nodes, randomNode(r, arguments, most))
			arguments = append(arguments, vars+i)
		}
		f.Top = arguments[len(arguments)-1]
		list = append(list, f)
	}
	return list
}

// randomNode returns a node of any kind with up to most of the arguments, of which many are among the latest ones.
func randomNode(r *rand.Rand, arguments []int, most int) api.Node {
	n := api.Node{Kind: r.IntN(6)}
	count := 1 + r.IntN(most)
	switch {
	case len(arguments) == 0 || n.Kind == api.NodeConst && r.IntN(4) == 0:
		return constant(r.IntN(2))
	case n.Kind == api.NodeConst:
		n.Kind = api.NodeXor
	case n.Kind == api.NodeNot:
		count = 1
	case n.Kind == api.NodeVote:
		n.K = 1 + r.IntN(count)
	}
	for range count {
		place := r.IntN(len(arguments))
		if r.IntN(2) == 0 {
			place = max(0, len(arguments)-1-r.IntN(4))
		}
		n.Args = append(n.Args, arguments[place])
	}
	return n
}

// sums returns formulas that are nodes of the kind whose arguments are products of some of the events and of opposites of
// others. Such formulas have many primes.
func sums(kind int, seed uint64, count, vars int, events ...int) []api.Formula {
	r := rand.New(rand.NewPCG(13, seed))
	var list []api.Formula
	for range count {
		var nodes []api.Node
		for i := range events {
			nodes = append(nodes, node(api.NodeNot, events[i]))
		}
		sum := node(kind)
		longest := 2 + r.IntN(len(events))
		for range 4 + r.IntN(13) {
			product := node(api.NodeAnd)
			for range 2 + r.IntN(longest) {
				i := r.IntN(len(events))
				product.Args = append(product.Args, []int{events[i], vars + i}[r.IntN(2)])
			}
			sum.Args = append(sum.Args, vars+len(nodes))
			nodes = append(nodes, product)
		}
		list = append(list, last(vars, append(nodes, sum)...))
	}
	return list
}

// fewEvents returns formulas of up to five events.
func fewEvents() []api.Formula {
	list := append(smallFormulas(), example(), between(1, 2, 3, 0, 1, 2), between(1, 3, 4, 3, 1, 0, 2))
	for vars := range 6 {
		list = append(list, randomFormulas(uint64(vars), 60, 12, vars, from(0, vars-1)...)...)
	}
	for vars := 2; vars < 6; vars++ {
		list = append(list, sums(api.NodeOr, uint64(vars), 60, vars, from(0, vars-1)...)...)
		list = append(list, sums(api.NodeXor, uint64(vars), 60, vars, from(0, vars-1)...)...)
	}
	return append(list, randomFormulas(6, 60, 12, 5, 4, 1)...)
}

// manyEvents returns formulas whose support has up to twelve of 24 events, or of fewer.
func manyEvents() []api.Formula {
	some := []int{23, 3, 17, 0, 11, 12, 8}
	dozen := []int{1, 2, 3, 5, 8, 13, 21, 22, 23, 14, 16, 0}
	return slices.Concat(
		randomFormulas(7, 40, 20, 24, some...),
		randomFormulas(8, 10, 127, 24, dozen...),
		randomFormulas(9, 10, 30, 12, from(0, 11)...),
		sums(api.NodeOr, 10, 40, 24, some...),
		sums(api.NodeXor, 11, 40, 24, some...),
		sums(api.NodeOr, 12, 5, 24, dozen...),
		sums(api.NodeOr, 13, 5, 12, from(0, 11)...),
		[]api.Formula{
			vacuous(24, some...),
			last(24, vote(6, dozen...)),
			parity(24, some...),
			between(2, 4, 24, some...),
			between(1, 6, 24, some...),
		},
	)
}

// vacuous returns a formula that is true in all states, with these events below Top.
func vacuous(vars int, events ...int) api.Formula {
	return last(vars, node(api.NodeXor, events...), node(api.NodeNot, vars), node(api.NodeOr, vars, vars+1))
}

// eventsBelow returns the support of a formula that is valid.
func eventsBelow(t *testing.T, f api.Formula) int {
	t.Helper()
	support, err := formula.Support(f)
	if err != nil {
		t.Fatalf("Support(%v): %v", f, err)
	}
	return support
}

// holds returns the value of a formula in a state.
func holds(t *testing.T, f api.Formula, state int) bool {
	t.Helper()
	value, err := formula.Value(f, state)
	if err != nil {
		t.Fatalf("Value(%v, %d): %v", f, state, err)
	}
	return value
}

// subsets returns all sets of some events, ascending.
func subsets(events int) []int {
	list := []int{0}
	for i := range 24 {
		if events>>i%2 == 1 {
			for _, s := range slices.Clone(list) {
				list = append(list, s+1<<i)
			}
		}
	}
	return list
}

// cubesOf returns all cubes that have no other events than these.
func cubesOf(events int) []api.Cube {
	var list []api.Cube
	for _, has := range subsets(events) {
		for _, yes := range subsets(has) {
			list = append(list, api.Cube{Yes: yes, No: has - yes})
		}
	}
	return list
}

// contains reports whether a state is in a cube.
func contains(c api.Cube, state int) bool {
	return state&c.Yes == c.Yes && state&c.No == 0
}

// without returns the cubes that lack one of the literals.
func without(c api.Cube) []api.Cube {
	var list []api.Cube
	for i := range 24 {
		less := api.Cube{Yes: c.Yes &^ (1 << i), No: c.No &^ (1 << i)}
		if less != c {
			list = append(list, less)
		}
	}
	return list
}

// compare returns -1, 0 or 1 by the number of literals, then Yes, then No.
func compare(a, b api.Cube) int {
	size := func(c api.Cube) int { return bits.OnesCount(uint(c.Yes)) + bits.OnesCount(uint(c.No)) }
	return cmp.Or(cmp.Compare(size(a), size(b)), cmp.Compare(a.Yes, b.Yes), cmp.Compare(a.No, b.No))
}

// listed reports a call that does not return the list and the error wanted.
func listed(t *testing.T, result []api.Cube, err error, want []api.Cube, fault error, call string, args ...any) {
	t.Helper()
	if !slices.Equal(result, want) || err != fault {
		t.Errorf("%s%v = %v, %v, want %v, %v", call, args, result, err, want, fault)
	}
}

// got reports a call that does not return the answer and the error wanted.
func got(t *testing.T, result bool, err error, want bool, fault error, call string, args ...any) {
	t.Helper()
	if result != want || err != fault {
		t.Errorf("%s%v = %v, %v, want %v, %v", call, args, result, err, want, fault)
	}
}
