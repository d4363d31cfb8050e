package normal_test

import (
	"math/rand/v2"
	"slices"
	"testing"

	"faultline/api"
	"faultline/formula"
	"faultline/normal"
)

// refused compares the error of every function with the one that Check returns, and reports a formula with an error.
func refused(t *testing.T, f api.Formula) {
	t.Helper()
	fault := formula.Check(f)
	for _, r := range rewrites() {
		result, err := r.f(f)
		formed(t, result, err, api.Formula{}, fault, r.name, f)
	}
	good := event(2, 1)
	for _, c := range []api.Cube{{}, {Yes: 1}, {Yes: -1}, {No: 1 << 24}, {Yes: 1, No: 1}} {
		result, err := normal.Assign(f, c)
		formed(t, result, err, api.Formula{}, fault, "Assign", f, c)
	}
	for _, i := range []int{0, -1, 24} {
		result, err := normal.Replace(f, i, good)
		formed(t, result, err, api.Formula{}, fault, "Replace", f, i, good)
		result, err = normal.Replace(good, i, f)
		formed(t, result, err, api.Formula{}, fault, "Replace", good, i, f)
	}
}

// spoiled returns formulas of which up to two ints have become others.
func spoiled(seed uint64, formulas []api.Formula) []api.Formula {
	r := rand.New(rand.NewPCG(11, seed))
	values := append(from(-1, 30), oddInts()...)
	var list []api.Formula
	for _, f := range formulas {
		f = copied(f)
		for range 1 + r.IntN(2) {
			places := []*int{&f.Vars, &f.Top}
			for i := range f.Nodes {
				places = append(places, &f.Nodes[i].Kind, &f.Nodes[i].K)
				for j := range f.Nodes[i].Args {
					places = append(places, &f.Nodes[i].Args[j])
				}
			}
			*places[r.IntN(len(places))] = values[r.IntN(len(values))]
		}
		list = append(list, f)
	}
	return list
}

// brokenFormulas returns formulas that Check refuses, some with each of its errors.
func brokenFormulas() []api.Formula {
	list := []api.Formula{
		{}, {Top: 1}, {Vars: -1}, {Vars: -1, Top: -1}, {Vars: 25}, {Vars: 2, Top: 2},
		last(1, slices.Repeat([]api.Node{constant(0)}, 129)...),
		last(2, node(6, 0, 1)), last(2, node(api.NodeAnd)), last(2, node(api.NodeNot, 0, 1)), last(2, node(api.NodeOr, make([]int, 17)...)),
		last(2, node(api.NodeAnd, 0, 2)), last(2, node(api.NodeXor, -1)),
		last(2, constant(2)), last(2, vote(0, 0, 1)), last(2, vote(3, 0, 1)), last(2, api.Node{Kind: api.NodeAnd, K: 1, Args: []int{0, 1}}),
	}
	list = append(list, spoiled(3, append(smallFormulas(), randomFormulas(4, 2000, 24, 30)...))...)
	return slices.DeleteFunc(list, func(f api.Formula) bool { return formula.Check(f) == nil })
}

// Every function returns the error of Check first, and nothing else with it.
func TestErrorsFirst(t *testing.T) {
	found := map[error]int{}
	for _, f := range brokenFormulas() {
		found[formula.Check(f)]++
		refused(t, f)
	}
	for _, err := range []error{api.ErrRange, api.ErrLarge, api.ErrType, api.ErrShape, api.ErrIndex, api.ErrForm} {
		if found[err] == 0 {
			t.Errorf("no formula has the error %v", err)
		}
	}
}

// Assign returns the error of the formula, then ErrRange for Yes and for No, then ErrTwice, then ErrLarge.
func TestErrorsOfAssign(t *testing.T) {
	broken := last(3, node(6, 0))
	good := last(3, node(api.NodeAnd, 0, 1))
	full := last(3, slices.Repeat([]api.Node{node(api.NodeAnd, 0, 1)}, 127)...)
	for _, c := range []struct {
		f    api.Formula
		cube api.Cube
		want error
	}{
		{broken, api.Cube{Yes: -1}, api.ErrType},
		{broken, api.Cube{Yes: 1, No: 1}, api.ErrType},
		{good, api.Cube{Yes: 8}, api.ErrRange},
		{good, api.Cube{No: 8}, api.ErrRange},
		{good, api.Cube{Yes: 8, No: 8}, api.ErrRange},
		{good, api.Cube{Yes: 9, No: 1}, api.ErrRange},
		{good, api.Cube{Yes: 1, No: -1}, api.ErrRange},
		{good, api.Cube{Yes: -1}, api.ErrRange},
		{good, api.Cube{Yes: 4, No: 6}, api.ErrTwice},
		{good, api.Cube{Yes: 7, No: 7}, api.ErrTwice},
		{full, api.Cube{Yes: 8}, api.ErrRange},
		{full, api.Cube{No: -8}, api.ErrRange},
		{full, api.Cube{Yes: 1, No: 1}, api.ErrTwice},
		{full, api.Cube{Yes: 1, No: 2}, api.ErrLarge},
		{full, api.Cube{}, api.ErrLarge},
		{last(0, constant(0)), api.Cube{Yes: 1}, api.ErrRange},
		{last(0, constant(0)), api.Cube{No: 1}, api.ErrRange},
		{event(24, 0), api.Cube{Yes: 1 << 24}, api.ErrRange},
		{event(24, 0), api.Cube{No: 1 << 24}, api.ErrRange},
		{event(24, 0), api.Cube{Yes: 1 << 23, No: 1 << 23}, api.ErrTwice},
	} {
		result, err := normal.Assign(c.f, c.cube)
		formed(t, result, err, api.Formula{}, c.want, "Assign", c.f, c.cube)
	}
	for vars := range 25 {
		f := last(vars, constant(0))
		for _, set := range append(oddInts(), 1<<vars, 1<<vars+1, -1<<vars) {
			if set >= 0 && set < 1<<vars {
				continue
			}
			for _, c := range []api.Cube{{Yes: set}, {No: set}, {Yes: set, No: set}} {
				result, err := normal.Assign(f, c)
				formed(t, result, err, api.Formula{}, api.ErrRange, "Assign", f, c)
			}
		}
		if _, err := normal.Assign(f, api.Cube{Yes: 1<<vars - 1}); err != nil {
			t.Errorf("Assign of all %d events: %v", vars, err)
		}
	}
}

// Replace returns the error of the first formula, then that of the second one, ErrShape, ErrIndex, ErrLarge.
func TestErrorsOfReplace(t *testing.T) {
	badType, badIndex := last(2, node(6, 0)), event(2, 2)
	two, three := last(2, node(api.NodeAnd, 0, 1)), last(3, node(api.NodeAnd, 0, 1))
	full := last(2, slices.Repeat([]api.Node{node(api.NodeAnd, 0, 1)}, 128)...)
	for _, c := range []struct {
		f     api.Formula
		event int
		g     api.Formula
		want  error
	}{
		{badType, 2, badIndex, api.ErrType},
		{badIndex, 2, badType, api.ErrIndex},
		{badType, 2, three, api.ErrType},
		{three, 2, badType, api.ErrType},
		{two, 5, badType, api.ErrType},
		{full, 5, badType, api.ErrType},
		{two, 0, three, api.ErrShape},
		{three, 0, two, api.ErrShape},
		{three, 5, two, api.ErrShape},
		{three, -1, full, api.ErrShape},
		{full, 0, three, api.ErrShape},
		{two, 2, two, api.ErrIndex},
		{two, -1, two, api.ErrIndex},
		{full, 2, full, api.ErrIndex},
		{full, 1, full, api.ErrLarge},
		{full, 0, two, api.ErrLarge},
		{two, 0, full, api.ErrLarge},
		{last(0, constant(0)), 0, last(0, constant(0)), api.ErrIndex},
	} {
		result, err := normal.Replace(c.f, c.event, c.g)
		formed(t, result, err, api.Formula{}, c.want, "Replace", c.f, c.event, c.g)
	}
	for vars := range 25 {
		f := last(vars, constant(0))
		for _, i := range append(oddInts(), vars, vars+1) {
			if i < 0 || i >= vars {
				result, err := normal.Replace(f, i, f)
				formed(t, result, err, api.Formula{}, api.ErrIndex, "Replace", f, i, f)
			}
		}
	}
}

// outcome compares an error, and the number of nodes if there is none.
func outcome(t *testing.T, f api.Formula, err error, nodes int, call string) {
	t.Helper()
	if nodes > 128 {
		formed(t, f, err, api.Formula{}, api.ErrLarge, call, nodes)
	} else if err != nil || len(f.Nodes) != nodes {
		t.Errorf("%s = %v, %v, want %d nodes", call, f, err, nodes)
	}
}

// A result may have 128 nodes and no more. Where it is trimmed, only the nodes that are left count.
func TestLimit(t *testing.T) {
	ands := func(count int) api.Formula {
		f := event(24, 23)
		for range count {
			f.Nodes = append(f.Nodes, node(api.NodeAnd, f.Top, len(f.Nodes)%24))
			f.Top = 24 + len(f.Nodes) - 1
		}
		return f
	}
	for count := range 129 {
		f := ands(count)
		g, err := normal.Push(f)
		outcome(t, g, err, count, "Push")
		g, err = normal.Fold(f)
		outcome(t, g, err, count, "Fold")
		g, err = normal.Assign(f, api.Cube{Yes: 5, No: 2})
		outcome(t, g, err, count+2, "Assign")
		for more := range 129 {
			g, err = normal.Replace(f, 3, ands(more))
			outcome(t, g, err, count+more, "Replace")
		}
		// A formula whose Top needs no node of a dual is not trimmed either.
		xors := event(2, 0)
		xors.Nodes = slices.Concat(slices.Repeat([]api.Node{node(api.NodeXor, 0, 1)}, count/2), slices.Repeat([]api.Node{constant(0)}, count-count/2))
		g, err = normal.Dual(xors)
		outcome(t, g, err, count+count/2, "Dual")
		g, err = normal.Push(xors)
		outcome(t, g, err, 0, "Push")
	}
}

// A chain of which Push needs the not of one event, the negation of each node, and an or for the not on top.
func TestLimitOfPush(t *testing.T) {
	for count := range 127 {
		f := event(1, 0)
		for range count + 1 {
			f.Nodes = append(f.Nodes, node(api.NodeAnd, 0, f.Top))
			f.Top = len(f.Nodes)
		}
		f.Nodes = append(f.Nodes, node(api.NodeNot, f.Top))
		f.Top++
		g, err := normal.Push(f)
		outcome(t, g, err, count+3, "Push")
	}
}

// Xors with true, each with the one before it, of which Fold makes a xor and a not each, as far as Top needs them.
func TestLimitOfFold(t *testing.T) {
	nodes := []api.Node{constant(1), node(api.NodeXor, 0, 1, 2)}
	for count := 1; count <= 126; count++ {
		f := last(2, nodes...)
		g, err := normal.Fold(f)
		outcome(t, g, err, 2*count, "Fold")
		h := last(2, append(slices.Clone(nodes), node(api.NodeAnd, 0, f.Top))...)
		g, err = normal.Fold(h)
		outcome(t, g, err, 2*count+1, "Fold")
		f.Top = 3
		g, err = normal.Fold(f)
		outcome(t, g, err, 2, "Fold")
		nodes = append(nodes, node(api.NodeXor, count%2, 2, 2+len(nodes)-1))
	}
}

// No function changes a formula, or the memory behind it.
func TestArgumentsStay(t *testing.T) {
	for _, f := range append(someFormulas(), brokenFormulas()...) {
		g, h := copied(f), copied(f)
		for _, r := range rewrites() {
			r.f(g)
		}
		normal.Assign(g, api.Cube{Yes: 1, No: 2})
		normal.Assign(g, api.Cube{})
		normal.Replace(g, 0, h)
		normal.Replace(g, 1, h)
		for _, g := range []api.Formula{g, h} {
			if !same(f, g) || g.Nodes[:len(g.Nodes)+1][len(g.Nodes)].Kind != -7 {
				t.Errorf("%v has changed: %v", f, g)
			}
			for _, n := range g.Nodes {
				if behind := n.Args[:len(n.Args)+2][len(n.Args):]; !slices.Equal(behind, []int{-7, -8}) {
					t.Errorf("%v: the memory behind %v has changed: %v", f, n, behind)
				}
			}
		}
	}
}

// filled sets all memory of a formula to values that are in no formula, other ones for each node.
func filled(f api.Formula) {
	for i, n := range f.Nodes {
		memory := n.Args[:cap(n.Args)]
		for j := range memory {
			memory[j] = -10 - i
		}
	}
}

// The formula that a function returns shares no memory with an argument or with another result, nor do two of its
// nodes.
func TestResultsAreNew(t *testing.T) {
	calls := []func(f api.Formula) (api.Formula, error){
		normal.Push, normal.Dual, normal.Fold,
		func(f api.Formula) (api.Formula, error) { return normal.Assign(f, api.Cube{Yes: 1}) },
		func(f api.Formula) (api.Formula, error) { return normal.Replace(f, 0, f) },
	}
	for _, f := range someFormulas() {
		for i, call := range calls {
			want, fault := call(f)
			g := copied(f)
			first, _ := call(g)
			second, err := call(g)
			filled(g)
			clear(g.Nodes)
			filled(first)
			for j, n := range first.Nodes {
				if !slices.Equal(n.Args, slices.Repeat([]int{-10 - j}, len(n.Args))) {
					t.Errorf("function %d of %v: node %d shares memory with another one", i, f, j)
				}
			}
			clear(first.Nodes[:cap(first.Nodes)])
			formed(t, second, err, want, fault, "function", i, f)
		}
	}
}
