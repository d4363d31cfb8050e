package ternary_test

import (
	"math"
	"math/rand/v2"
	"slices"
	"testing"

	"faultline/api"
)

// node returns a node without a K.
func node(kind int, args ...int) api.Node {
	return api.Node{Kind: kind, Args: args}
}

// vote returns a vote of at least k of the arguments.
func vote(k int, args ...int) api.Node {
	return api.Node{Kind: api.NodeVote, K: k, Args: args}
}

// constant returns a const.
func constant(k int) api.Node {
	return api.Node{Kind: api.NodeConst, K: k}
}

// last returns the formula of the nodes whose Top is the last one.
func last(vars int, nodes ...api.Node) api.Formula {
	return api.Formula{Vars: vars, Nodes: nodes, Top: vars + len(nodes) - 1}
}

// from returns the ints from least to most.
func from(least, most int) []int {
	var list []int
	for i := least; i <= most; i++ {
		list = append(list, i)
	}
	return list
}

// oddInts returns ints that are in the range of hardly anything.
func oddInts() []int {
	return []int{math.MinInt, math.MinInt + 1, -1 << 32, -129, -25, -2, -1, 25, 129, 153, 1 << 32, math.MaxInt - 128, math.MaxInt - 1, math.MaxInt}
}

// counts returns the numbers of arguments that a node of the kind may have: none if there is no such kind.
func counts(kind int) []int {
	return map[int][]int{
		api.NodeConst: {0},
		api.NodeNot:   {1},
		api.NodeAnd:   from(1, 16),
		api.NodeOr:    from(1, 16),
		api.NodeVote:  from(1, 16),
		api.NodeXor:   from(1, 16),
	}[kind]
}

// ks returns the numbers K that a node of the kind may have, and the error of all others.
func ks(kind, args int) ([]int, error) {
	switch kind {
	case api.NodeConst:
		return []int{0, 1}, api.ErrRange
	case api.NodeVote:
		return from(1, args), api.ErrRange
	}
	return []int{0}, api.ErrForm
}

// fault returns what Check must return.
func fault(f api.Formula) error {
	if !slices.Contains(from(0, 24), f.Vars) {
		return api.ErrRange
	}
	if len(f.Nodes) > 128 {
		return api.ErrLarge
	}
	known := from(0, f.Vars-1)
	for _, n := range f.Nodes {
		if counts(n.Kind) == nil {
			return api.ErrType
		}
		if !slices.Contains(counts(n.Kind), len(n.Args)) {
			return api.ErrShape
		}
		for _, arg := range n.Args {
			if !slices.Contains(known, arg) {
				return api.ErrIndex
			}
		}
		if good, err := ks(n.Kind, len(n.Args)); !slices.Contains(good, n.K) {
			return err
		}
		known = append(known, len(known))
	}
	if !slices.Contains(known, f.Top) {
		return api.ErrIndex
	}
	return nil
}

// someNodes returns each node of the kinds with up to most of the given number of arguments.
func someNodes(arguments, most int) []api.Node {
	list := []api.Node{constant(0), constant(1)}
	lists := [][]int{{}}
	for n := 1; n <= most; n++ {
		var longer [][]int
		for _, args := range lists {
			for a := range arguments {
				longer = append(longer, append(slices.Clone(args), a))
			}
		}
		lists = longer
		for _, args := range lists {
			if n == 1 {
				list = append(list, node(api.NodeNot, args...))
			}
			list = append(list, node(api.NodeAnd, args...), node(api.NodeOr, args...), node(api.NodeXor, args...))
			for k := 1; k <= n; k++ {
				list = append(list, vote(k, args...))
			}
		}
	}
	return list
}

// smallFormulas returns the formulas of two events with up to two nodes of up to two arguments, and those of up to
// three events with one node of up to three arguments, each with every Top.
func smallFormulas() []api.Formula {
	var list []api.Formula
	add := func(vars int, nodes ...api.Node) {
		for top := range vars + len(nodes) {
			list = append(list, api.Formula{Vars: vars, Nodes: nodes, Top: top})
		}
	}
	for vars := range 4 {
		add(vars)
		for _, n := range someNodes(vars, 3) {
			add(vars, n)
		}
	}
	for _, m := range someNodes(2, 2) {
		for _, n := range someNodes(3, 2) {
			add(2, m, n)
		}
	}
	return list
}

// randomNode returns a node of up to most arguments, of which many are among the latest ones.
func randomNode(r *rand.Rand, arguments, most int) api.Node {
	n := api.Node{Kind: r.IntN(6)}
	if arguments == 0 {
		n.Kind = api.NodeConst
	}
	possible := counts(n.Kind)
	for range possible[r.IntN(min(most, len(possible)))] {
		if r.IntN(3) == 0 {
			n.Args = append(n.Args, r.IntN(arguments))
		} else {
			n.Args = append(n.Args, max(0, arguments-1-r.IntN(6)))
		}
	}
	good, _ := ks(n.Kind, len(n.Args))
	n.K = good[r.IntN(len(good))]
	return n
}

// randomFormulas returns formulas of up to vars events and up to nodes nodes.
func randomFormulas(seed uint64, count, vars, nodes int) []api.Formula {
	r := rand.New(rand.NewPCG(9, seed))
	var list []api.Formula
	for range count {
		f := api.Formula{Vars: r.IntN(vars + 1)}
		most := 1 + r.IntN(16)
		for i := range 1 + r.IntN(nodes) {
			f.Nodes = append(f.Nodes, randomNode(r, f.Vars+i, most))
		}
		f.Top = f.Vars + len(f.Nodes) - 1
		if r.IntN(4) == 0 {
			f.Top = r.IntN(f.Vars + len(f.Nodes))
		}
		list = append(list, f)
	}
	return list
}

// largest returns formulas of all events and as many nodes as there may be, with as many arguments as they may have:
// one of which Top needs all nodes, one of which it needs every second one.
func largest() []api.Formula {
	var list []api.Formula
	for step := 1; step <= 2; step++ {
		f := api.Formula{Vars: 24}
		for i := range 128 {
			n := api.Node{Kind: api.NodeAnd + i%4}
			for j := range 16 {
				n.Args = append(n.Args, max(i%2, 24+i-step*(1+j)))
			}
			if n.Kind == api.NodeVote {
				n.K = 1 + i%16
			}
			f.Nodes = append(f.Nodes, n)
		}
		f.Top = 24 + 127
		list = append(list, f)
	}
	return list
}

// someFormulas returns formulas of all kinds.
func someFormulas() []api.Formula {
	return slices.Concat(smallFormulas(), randomFormulas(1, 500, 6, 10), randomFormulas(2, 200, 24, 128), largest())
}

// same reports whether two formulas have the same parts.
func same(f, g api.Formula) bool {
	return f.Vars == g.Vars && f.Top == g.Top && slices.EqualFunc(f.Nodes, g.Nodes, func(m, n api.Node) bool {
		return m.Kind == n.Kind && m.K == n.K && slices.Equal(m.Args, n.Args)
	})
}

// copied returns a formula of the same parts in memory of its own, with other values behind all slices.
func copied(f api.Formula) api.Formula {
	nodes := make([]api.Node, 0, len(f.Nodes)+1)
	for _, n := range f.Nodes {
		n.Args = append(slices.Clone(n.Args), -7, -8)[:len(n.Args)]
		nodes = append(nodes, n)
	}
	f.Nodes = append(nodes, node(-7, -8))[:len(nodes)]
	return f
}

// got reports a call that does not return the result and the error wanted. A nil error stands for none.
func got[T comparable](t *testing.T, result T, err error, want T, fault error, call string, args ...any) {
	t.Helper()
	if result != want || err != fault {
		t.Errorf("%s%v = %v, %v, want %v, %v", call, args, result, err, want, fault)
	}
}

// listed reports a call that does not return the list and the error wanted.
func listed[T comparable](t *testing.T, result []T, err error, want []T, fault error, call string, args ...any) {
	t.Helper()
	if !slices.Equal(result, want) || err != fault {
		t.Errorf("%s%v = %v, %v, want %v, %v", call, args, result, err, want, fault)
	}
}

// The truth values, as the chapter numbers them.
const (
	no      = 0
	yes     = 1
	unknown = 2
)

// example is the formula of the chapter's example: event 0, or events 1 and 2.
func example() api.Formula {
	return last(3, node(api.NodeAnd, 1, 2), node(api.NodeOr, 0, 3))
}

// cubeOf returns the cube in which the events have the values.
func cubeOf(values []int) api.Cube {
	c := api.Cube{}
	bit := 1
	for _, v := range values {
		switch v {
		case yes:
			c.Yes += bit
		case no:
			c.No += bit
		}
		bit *= 2
	}
	return c
}

// someValues returns lists of values of the events: all of them for few events.
func someValues(vars int) [][]int {
	lists := [][]int{nil}
	if vars <= 3 {
		for range vars {
			var longer [][]int
			for _, list := range lists {
				for _, v := range []int{no, yes, unknown} {
					longer = append(longer, append(slices.Clone(list), v))
				}
			}
			lists = longer
		}
		return lists
	}
	r := rand.New(rand.NewPCG(9, uint64(vars)))
	lists = [][]int{slices.Repeat([]int{no}, vars), slices.Repeat([]int{yes}, vars), slices.Repeat([]int{unknown}, vars)}
	for range 30 {
		known := r.IntN(5)
		list := make([]int, vars)
		for i := range list {
			list[i] = unknown
			if r.IntN(4) < known {
				list[i] = r.IntN(2)
			}
		}
		lists = append(lists, list)
	}
	return lists
}

// possible returns the values that a node with so many true arguments may have.
func possible(n api.Node, counts []int) []int {
	var list []int
	for _, count := range counts {
		value := map[int]bool{
			api.NodeConst: n.K == 1,
			api.NodeNot:   count == 0,
			api.NodeAnd:   count == len(n.Args),
			api.NodeOr:    count != 0,
			api.NodeVote:  count >= n.K,
			api.NodeXor:   count%2 == 1,
		}[n.Kind]
		v := no
		if value {
			v = yes
		}
		if !slices.Contains(list, v) {
			list = append(list, v)
		}
	}
	return list
}

// tabled returns the value of a node whose arguments have these values: unknown if it depends on what the unknown
// ones are, as if each were what it likes. (This is what the chapter's table says of each kind.)
func tabled(n api.Node, values []int) int {
	counts := []int{0}
	for _, v := range values {
		var next []int
		for _, count := range counts {
			if v != yes && !slices.Contains(next, count) {
				next = append(next, count)
			}
			if v != no && !slices.Contains(next, count+1) {
				next = append(next, count+1)
			}
		}
		counts = next
	}
	if list := possible(n, counts); len(list) == 1 {
		return list[0]
	}
	return unknown
}

// allValues returns the values of all events and nodes.
func allValues(f api.Formula, events []int) []int {
	values := slices.Clone(events)
	for _, n := range f.Nodes {
		var list []int
		for _, arg := range n.Args {
			list = append(list, values[arg])
		}
		values = append(values, tabled(n, list))
	}
	return values
}

// nextOf returns what Next must return from an argument on.
func nextOf(f api.Formula, values []int, arg int) int {
	if values[arg] != unknown {
		return -1
	}
	if arg < f.Vars {
		return arg
	}
	args := f.Nodes[arg-f.Vars].Args
	return nextOf(f, values, args[slices.IndexFunc(args, func(a int) bool { return values[a] == unknown })])
}
