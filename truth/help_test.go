package truth_test

import (
	"math"
	"math/rand/v2"
	"slices"
	"testing"

	"faultline/api"
)

// node returns a node without a K.
func node(kind int, args ...int) api.Node {
	return api.Node{Kind: kind, Args: args}
}

// vote returns a vote of at least k of the arguments.
func vote(k int, args ...int) api.Node {
	return api.Node{Kind: api.NodeVote, K: k, Args: args}
}

// constant returns a const.
func constant(k int) api.Node {
	return api.Node{Kind: api.NodeConst, K: k}
}

// last returns the formula of the nodes whose Top is the last one.
func last(vars int, nodes ...api.Node) api.Formula {
	return api.Formula{Vars: vars, Nodes: nodes, Top: vars + len(nodes) - 1}
}

// from returns the ints from least to most.
func from(least, most int) []int {
	var list []int
	for i := least; i <= most; i++ {
		list = append(list, i)
	}
	return list
}

// oddInts returns ints that are in the range of hardly anything.
func oddInts() []int {
	return []int{math.MinInt, math.MinInt + 1, -1 << 32, -129, -25, -2, -1, 25, 129, 153, 1 << 32, math.MaxInt - 128, math.MaxInt - 1, math.MaxInt}
}

// counts returns the numbers of arguments that a node of the kind may have: none if there is no such kind.
func counts(kind int) []int {
	return map[int][]int{
		api.NodeConst: {0},
		api.NodeNot:   {1},
		api.NodeAnd:   from(1, 16),
		api.NodeOr:    from(1, 16),
		api.NodeVote:  from(1, 16),
		api.NodeXor:   from(1, 16),
	}[kind]
}

// ks returns the numbers K that a node of the kind may have, and the error of all others.
func ks(kind, args int) ([]int, error) {
	switch kind {
	case api.NodeConst:
		return []int{0, 1}, api.ErrRange
	case api.NodeVote:
		return from(1, args), api.ErrRange
	}
	return []int{0}, api.ErrForm
}

// fault returns what Check must return.
func fault(f api.Formula) error {
	if !slices.Contains(from(0, 24), f.Vars) {
		return api.ErrRange
	}
	if len(f.Nodes) > 128 {
		return api.ErrLarge
	}
	known := from(0, f.Vars-1)
	for _, n := range f.Nodes {
		if counts(n.Kind) == nil {
			return api.ErrType
		}
		if !slices.Contains(counts(n.Kind), len(n.Args)) {
			return api.ErrShape
		}
		for _, arg := range n.Args {
			if !slices.Contains(known, arg) {
				return api.ErrIndex
			}
		}
		if good, err := ks(n.Kind, len(n.Args)); !slices.Contains(good, n.K) {
			return err
		}
		known = append(known, len(known))
	}
	if !slices.Contains(known, f.Top) {
		return api.ErrIndex
	}
	return nil
}

// tabled returns the value of a node whose arguments have these values.
func tabled(n api.Node, values []bool) bool {
	trues := slices.DeleteFunc(slices.Clone(values), func(v bool) bool { return !v })
	switch n.Kind {
	case api.NodeConst:
		return n.K == 1
	case api.NodeNot:
		return !values[0]
	case api.NodeAnd:
		return !slices.Contains(values, false)
	case api.NodeOr:
		return slices.Contains(values, true)
	case api.NodeVote:
		return len(trues) >= n.K
	}
	odd := false
	for range trues {
		odd = !odd
	}
	return odd
}

// someNodes returns each node of the kinds with up to most of the given number of arguments.
func someNodes(arguments, most int) []api.Node {
	list := []api.Node{constant(0), constant(1)}
	lists := [][]int{{}}
	for n := 1; n <= most; n++ {
		var longer [][]int
		for _, args := range lists {
			for a := range arguments {
				longer = append(longer, append(slices.Clone(args), a))
			}
		}
		lists = longer
		for _, args := range lists {
			if n == 1 {
				list = append(list, node(api.NodeNot, args...))
			}
			list = append(list, node(api.NodeAnd, args...), node(api.NodeOr, args...), node(api.NodeXor, args...))
			for k := 1; k <= n; k++ {
				list = append(list, vote(k, args...))
			}
		}
	}
	return list
}

// smallFormulas returns the formulas of two events with up to two nodes of up to two arguments, and those of up to
// three events with one node of up to three arguments, each with every Top.
func smallFormulas() []api.Formula {
	var list []api.Formula
	add := func(vars int, nodes ...api.Node) {
		for top := range vars + len(nodes) {
			list = append(list, api.Formula{Vars: vars, Nodes: nodes, Top: top})
		}
	}
	for vars := range 4 {
		add(vars)
		for _, n := range someNodes(vars, 3) {
			add(vars, n)
		}
	}
	for _, m := range someNodes(2, 2) {
		for _, n := range someNodes(3, 2) {
			add(2, m, n)
		}
	}
	return list
}

// randomNode returns a node of up to most arguments, of which many are among the latest ones.
func randomNode(r *rand.Rand, arguments, most int) api.Node {
	n := api.Node{Kind: r.IntN(6)}
	if arguments == 0 {
		n.Kind = api.NodeConst
	}
	possible := counts(n.Kind)
	for range possible[r.IntN(min(most, len(possible)))] {
		if r.IntN(3) == 0 {
			n.Args = append(n.Args, r.IntN(arguments))
		} else {
			n.Args = append(n.Args, max(0, arguments-1-r.IntN(6)))
		}
	}
	good, _ := ks(n.Kind, len(n.Args))
	n.K = good[r.IntN(len(good))]
	return n
}

// randomFormulas returns formulas of up to vars events and up to nodes nodes.
func randomFormulas(seed uint64, count, vars, nodes int) []api.Formula {
	r := rand.New(rand.NewPCG(10, seed))
	var list []api.Formula
	for range count {
		f := api.Formula{Vars: r.IntN(vars + 1)}
		most := 1 + r.IntN(16)
		for i := range 1 + r.IntN(nodes) {
			f.Nodes = append(f.Nodes, randomNode(r, f.Vars+i, most))
		}
		f.Top = f.Vars + len(f.Nodes) - 1
		if r.IntN(4) == 0 {
			f.Top = r.IntN(f.Vars + len(f.Nodes))
		}
		list = append(list, f)
	}
	return list
}

// largest returns formulas of so many events and as many nodes as there may be, with as many arguments as they may
// have: one of which Top needs all nodes, one of which it needs every second one.
func largest(vars int) []api.Formula {
	var list []api.Formula
	for step := 1; step <= 2; step++ {
		f := api.Formula{Vars: vars}
		for i := range 128 {
			n := api.Node{Kind: api.NodeAnd + i%4}
			for j := range 16 {
				n.Args = append(n.Args, max(i%2, vars+i-step*(1+j)))
			}
			if n.Kind == api.NodeVote {
				n.K = 1 + i%16
			}
			f.Nodes = append(f.Nodes, n)
		}
		f.Top = vars + 127
		list = append(list, f)
	}
	return list
}

// same reports whether two formulas have the same parts.
func same(f, g api.Formula) bool {
	return f.Vars == g.Vars && f.Top == g.Top && slices.EqualFunc(f.Nodes, g.Nodes, func(m, n api.Node) bool {
		return m.Kind == n.Kind && m.K == n.K && slices.Equal(m.Args, n.Args)
	})
}

// copied returns a formula of the same parts in memory of its own, with other values behind all slices.
func copied(f api.Formula) api.Formula {
	nodes := make([]api.Node, 0, len(f.Nodes)+1)
	for _, n := range f.Nodes {
		n.Args = append(slices.Clone(n.Args), -7, -8)[:len(n.Args)]
		nodes = append(nodes, n)
	}
	f.Nodes = append(nodes, node(-7, -8))[:len(nodes)]
	return f
}

// got reports a call that does not return the result and the error wanted. A nil error stands for none.
func got[T comparable](t *testing.T, result T, err error, want T, fault error, call string, args ...any) {
	t.Helper()
	if result != want || err != fault {
		t.Errorf("%s%v = %v, %v, want %v, %v", call, args, result, err, want, fault)
	}
}

// listed reports a call that does not return the list and the error wanted.
func listed[T comparable](t *testing.T, result []T, err error, want []T, fault error, call string, args ...any) {
	t.Helper()
	if !slices.Equal(result, want) || err != fault {
		t.Errorf("%s%v = %v, %v, want %v, %v", call, args, result, err, want, fault)
	}
}

// tableOf returns what Table must return.
func tableOf(f api.Formula) []bool {
	var table []bool
	for failed := range 1 << f.Vars {
		var values []bool
		for range f.Vars {
			values = append(values, failed%2 == 1)
			failed /= 2
		}
		for _, n := range f.Nodes {
			var list []bool
			for _, arg := range n.Args {
				list = append(list, values[arg])
			}
			values = append(values, tabled(n, list))
		}
		table = append(table, values[f.Top])
	}
	return table
}

// refusal returns the error of the functions that take one formula.
func refusal(f api.Formula) error {
	if err := fault(f); err != nil {
		return err
	}
	if f.Vars > 12 {
		return api.ErrLarge
	}
	return nil
}

// someFormulas returns formulas of all kinds with up to 12 events.
func someFormulas() []api.Formula {
	return slices.Concat(smallFormulas(), randomFormulas(1, 300, 6, 10), randomFormulas(2, 10, 12, 128), largest(12))
}

// trueAt returns the formula of so many events that is true for these sets alone.
func trueAt(vars int, sets ...int) api.Formula {
	no, yes := vars, vars+1
	nodes := []api.Node{constant(0), constant(1)}
	for i := range vars {
		nodes = append(nodes, node(api.NodeNot, i))
	}
	either := []int{no}
	for _, failed := range sets {
		literals := []int{yes}
		for i := range vars {
			if failed>>i%2 == 1 {
				literals = append(literals, i)
			} else {
				literals = append(literals, yes+1+i)
			}
		}
		nodes = append(nodes, node(api.NodeAnd, literals...))
		either = append(either, vars+len(nodes)-1)
	}
	return last(vars, append(nodes, node(api.NodeOr, either...))...)
}

// falseAt returns the formula of so many events that is false for these sets alone.
func falseAt(vars int, sets ...int) api.Formula {
	f := trueAt(vars, sets...)
	return last(vars, append(f.Nodes, node(api.NodeNot, f.Top))...)
}
