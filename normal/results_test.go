package normal_test

import (
	"testing"

	"faultline/api"
	"faultline/normal"
)

// outcomes reports if no call had a result, or none was too large.
func outcomes(t *testing.T, found map[error]int) {
	t.Helper()
	if found[nil] == 0 || found[api.ErrLarge] == 0 {
		t.Errorf("the outcomes are %v", found)
	}
}

// rewrite is a function of one formula, with what it must return.
type rewrite struct {
	name string
	f    func(f api.Formula) (api.Formula, error)
	want func(f api.Formula) (api.Formula, error)
}

func rewrites() []rewrite {
	return []rewrite{{"Push", normal.Push, pushedOf}, {"Dual", normal.Dual, dualOf}, {"Fold", normal.Fold, foldedOf}}
}

// withManyXors returns formulas of as many nodes as there may be: a const, xors of it and others, and a last node that
// needs some of them.
func withManyXors() []api.Formula {
	var list []api.Formula
	for k := range 2 {
		for _, needs := range []int{1, 10, 15, 16} {
			f := api.Formula{Vars: 3, Nodes: []api.Node{constant(k)}, Top: 3 + 127}
			for i := range 126 {
				f.Nodes = append(f.Nodes, node(api.NodeXor, 3, i%3, max(0, 3+i-8)))
			}
			f.Nodes = append(f.Nodes, node(api.NodeAnd, from(3+127-needs, 3+126)...))
			list = append(list, f)
		}
	}
	return list
}

func TestFunctionsOfOneFormula(t *testing.T) {
	for _, r := range rewrites() {
		found := map[error]int{}
		for _, f := range append(someFormulas(), withManyXors()...) {
			want, fault := r.want(f)
			result, err := r.f(f)
			formed(t, result, err, want, fault, r.name, f)
			found[err]++
		}
		outcomes(t, found)
	}
}

func TestAssign(t *testing.T) {
	found := map[error]int{}
	for _, f := range fewFormulas() {
		for _, c := range someCubes(f.Vars) {
			want, fault := assignedOf(f, c)
			result, err := normal.Assign(f, c)
			formed(t, result, err, want, fault, "Assign", f, c)
			found[err]++
		}
	}
	outcomes(t, found)
}

// partners returns formulas of the same events, with which a formula is tried: itself, events, and some others.
func partners(f api.Formula) []api.Formula {
	list := []api.Formula{f, last(f.Vars, constant(0)), last(f.Vars, constant(1), node(api.NodeNot, f.Vars))}
	for _, i := range places(f.Vars) {
		list = append(list, event(f.Vars, i), last(f.Vars, node(api.NodeNot, i), node(api.NodeXor, f.Vars, 0, i)))
	}
	return list
}

// places returns events to be replaced: all of them for few events.
func places(vars int) []int {
	if vars <= 3 {
		return from(0, vars-1)
	}
	return []int{0, vars / 2, vars - 1}
}

func TestReplace(t *testing.T) {
	found := map[error]int{}
	for _, f := range fewFormulas() {
		for _, g := range partners(f) {
			for _, i := range places(f.Vars) {
				want, fault := replacedOf(f, i, g)
				result, err := normal.Replace(f, i, g)
				formed(t, result, err, want, fault, "Replace", f, i, g)
				want, fault = replacedOf(g, i, f)
				result, err = normal.Replace(g, i, f)
				formed(t, result, err, want, fault, "Replace", g, i, f)
				found[err]++
			}
		}
	}
	outcomes(t, found)
}

func TestPushOfGivenFormulas(t *testing.T) {
	for _, c := range []struct{ f, want api.Formula }{
		// The chapter's example: the or of two nots, which stands in an or of one argument.
		{
			last(2, node(api.NodeAnd, 0, 1), node(api.NodeNot, 2)),
			last(2, node(api.NodeNot, 0), node(api.NodeNot, 1), node(api.NodeOr, 2, 3), node(api.NodeOr, 4)),
		},
		{event(3, 1), event(3, 1)},
		{event(24, 23), event(24, 23)},
		{last(0, constant(0)), last(0, constant(0))},
		{last(2, constant(1)), last(2, constant(1))},
		{last(1, constant(1), node(api.NodeNot, 1)), last(1, constant(0), node(api.NodeOr, 1))},
		{last(1, constant(0), node(api.NodeNot, 1)), last(1, constant(1), node(api.NodeOr, 1))},
		// Only what is needed stays, also of the nots of the events.
		{last(3, node(api.NodeAnd, 0, 2)), last(3, node(api.NodeAnd, 0, 2))},
		{last(3, node(api.NodeNot, 1)), last(3, node(api.NodeNot, 1), node(api.NodeOr, 3))},
		{last(3, node(api.NodeNot, 1), node(api.NodeNot, 3)), last(3, node(api.NodeOr, 1), node(api.NodeOr, 3))},
		{
			last(2, node(api.NodeOr, 1, 0), node(api.NodeNot, 2)),
			last(2, node(api.NodeNot, 0), node(api.NodeNot, 1), node(api.NodeAnd, 3, 2), node(api.NodeOr, 4)),
		},
		{
			last(3, vote(1, 2, 1, 2, 0), node(api.NodeNot, 3)),
			last(3, node(api.NodeNot, 0), node(api.NodeNot, 1), node(api.NodeNot, 2), vote(4, 5, 4, 5, 3), node(api.NodeOr, 6)),
		},
		// Value and negation of one node.
		{
			last(2, node(api.NodeAnd, 0, 1), node(api.NodeNot, 2), vote(1, 2, 3)),
			last(2, node(api.NodeNot, 0), node(api.NodeNot, 1), node(api.NodeAnd, 0, 1), node(api.NodeOr, 2, 3), node(api.NodeOr, 5), vote(1, 4, 6)),
		},
		{last(1, node(api.NodeXor, 0)), last(1, node(api.NodeOr, 0))},
		{
			last(1, node(api.NodeXor, 0), node(api.NodeNot, 1)),
			last(1, node(api.NodeNot, 0), node(api.NodeOr, 1), node(api.NodeOr, 2)),
		},
		// The negation of a xor of two.
		{
			last(2, node(api.NodeXor, 0, 1), node(api.NodeNot, 2)),
			last(2, node(api.NodeNot, 0), node(api.NodeNot, 1),
				node(api.NodeOr, 0), node(api.NodeOr, 2),
				node(api.NodeAnd, 4, 1), node(api.NodeAnd, 5, 3), node(api.NodeOr, 6, 7),
				node(api.NodeOr, 8)),
		},
		{
			last(3, node(api.NodeXor, 2, 0, 1)),
			last(3, node(api.NodeNot, 0), node(api.NodeNot, 1), node(api.NodeNot, 2),
				node(api.NodeOr, 2), node(api.NodeOr, 5),
				node(api.NodeAnd, 6, 3), node(api.NodeAnd, 7, 0), node(api.NodeOr, 8, 9),
				node(api.NodeAnd, 6, 0), node(api.NodeAnd, 7, 3), node(api.NodeOr, 11, 12),
				node(api.NodeAnd, 10, 4), node(api.NodeAnd, 13, 1), node(api.NodeOr, 14, 15)),
		},
	} {
		g, err := normal.Push(c.f)
		formed(t, g, err, c.want, nil, "Push", c.f)
	}
}

func TestDualOfGivenFormulas(t *testing.T) {
	for _, c := range []struct{ f, want api.Formula }{
		{last(3, vote(2, 0, 1, 2)), last(3, vote(2, 0, 1, 2))},
		{last(2, node(api.NodeAnd, 0, 1)), last(2, node(api.NodeOr, 0, 1))},
		{last(2, node(api.NodeOr, 1, 0)), last(2, node(api.NodeAnd, 1, 0))},
		{last(2, vote(1, 0, 0, 1, 1)), last(2, vote(4, 0, 0, 1, 1))},
		{event(3, 2), event(3, 2)},
		{last(0, constant(0)), last(0, constant(1))},
		{last(2, constant(1)), last(2, constant(0))},
		{last(2, node(api.NodeNot, 1)), last(2, node(api.NodeNot, 1))},
		{last(2, node(api.NodeXor, 1)), last(2, node(api.NodeXor, 1))},
		{last(2, node(api.NodeXor, 1, 0)), last(2, node(api.NodeXor, 1, 0), node(api.NodeNot, 2))},
		{last(2, node(api.NodeXor, 1, 0, 1)), last(2, node(api.NodeXor, 1, 0, 1))},
		// Later nodes are moved, and nothing is left out.
		{
			api.Formula{Vars: 2, Nodes: []api.Node{node(api.NodeXor, 0, 1), node(api.NodeAnd, 0, 2), node(api.NodeXor, 3, 2), constant(0)}, Top: 3},
			api.Formula{Vars: 2, Nodes: []api.Node{
				node(api.NodeXor, 0, 1), node(api.NodeNot, 2), node(api.NodeOr, 0, 3), node(api.NodeXor, 4, 3), node(api.NodeNot, 5), constant(1),
			}, Top: 4},
		},
	} {
		g, err := normal.Dual(c.f)
		formed(t, g, err, c.want, nil, "Dual", c.f)
	}
}

func TestAssignOfGivenFormulas(t *testing.T) {
	f := last(3, vote(2, 0, 1, 2), node(api.NodeAnd, 3, 1))
	with := func(top int, nodes ...api.Node) api.Formula {
		return api.Formula{Vars: 3, Nodes: append([]api.Node{constant(0), constant(1)}, nodes...), Top: top}
	}
	for _, c := range []struct {
		f    api.Formula
		cube api.Cube
		want api.Formula
	}{
		{f, api.Cube{}, with(6, vote(2, 0, 1, 2), node(api.NodeAnd, 5, 1))},
		{f, api.Cube{Yes: 1}, with(6, vote(2, 4, 1, 2), node(api.NodeAnd, 5, 1))},
		{f, api.Cube{No: 2}, with(6, vote(2, 0, 3, 2), node(api.NodeAnd, 5, 3))},
		{f, api.Cube{Yes: 2, No: 5}, with(6, vote(2, 3, 4, 3), node(api.NodeAnd, 5, 4))},
		{event(3, 1), api.Cube{}, with(1)},
		{event(3, 1), api.Cube{Yes: 5}, with(1)},
		{event(3, 1), api.Cube{Yes: 2}, with(4)},
		{event(3, 1), api.Cube{No: 7}, with(3)},
		{api.Formula{Vars: 3, Nodes: f.Nodes, Top: 3}, api.Cube{No: 7}, with(5, vote(2, 3, 3, 3), node(api.NodeAnd, 5, 3))},
		{last(0, constant(1)), api.Cube{}, api.Formula{Nodes: []api.Node{constant(0), constant(1), constant(1)}, Top: 2}},
	} {
		g, err := normal.Assign(c.f, c.cube)
		formed(t, g, err, c.want, nil, "Assign", c.f, c.cube)
	}
}

func TestReplaceOfGivenFormulas(t *testing.T) {
	and := last(2, node(api.NodeAnd, 0, 1))
	two := last(2, node(api.NodeNot, 0), node(api.NodeOr, 2, 0))
	for _, c := range []struct {
		f     api.Formula
		event int
		g     api.Formula
		want  api.Formula
	}{
		{and, 0, two, last(2, node(api.NodeNot, 0), node(api.NodeOr, 2, 0), node(api.NodeAnd, 3, 1))},
		{and, 1, two, last(2, node(api.NodeNot, 0), node(api.NodeOr, 2, 0), node(api.NodeAnd, 0, 3))},
		// The event stays where it is in the formula that replaces it.
		{two, 0, and, last(2, node(api.NodeAnd, 0, 1), node(api.NodeNot, 2), node(api.NodeOr, 3, 2))},
		{and, 0, and, last(2, node(api.NodeAnd, 0, 1), node(api.NodeAnd, 2, 1))},
		{and, 0, event(2, 0), and},
		{and, 0, event(2, 1), last(2, node(api.NodeAnd, 1, 1))},
		{event(2, 0), 0, and, and},
		{event(2, 0), 1, and, api.Formula{Vars: 2, Nodes: and.Nodes, Top: 0}},
		{event(2, 0), 0, event(2, 1), event(2, 1)},
		// A Top that is not the last node.
		{and, 1, api.Formula{Vars: 2, Nodes: two.Nodes, Top: 2}, last(2, node(api.NodeNot, 0), node(api.NodeOr, 2, 0), node(api.NodeAnd, 0, 2))},
		{api.Formula{Vars: 2, Nodes: two.Nodes, Top: 2}, 1, and, api.Formula{Vars: 2, Nodes: []api.Node{node(api.NodeAnd, 0, 1), node(api.NodeNot, 0), node(api.NodeOr, 3, 0)}, Top: 3}},
	} {
		h, err := normal.Replace(c.f, c.event, c.g)
		formed(t, h, err, c.want, nil, "Replace", c.f, c.event, c.g)
	}
}

// A node whose arguments are the events 0 to 2, the false node 3 and the true node 4.
func TestFoldOfGivenNodes(t *testing.T) {
	for _, c := range []struct {
		n    api.Node
		want api.Formula
	}{
		// The chapter's example.
		{vote(2, 0, 1, 4), last(3, vote(1, 0, 1))},
		{vote(1, 0, 1, 4), last(3, constant(1))},
		{vote(3, 0, 1, 4), last(3, vote(2, 0, 1))},
		{vote(3, 0, 1, 3), last(3, constant(0))},
		{vote(2, 0, 1, 3), last(3, vote(2, 0, 1))},
		{vote(1, 0, 3, 3), event(3, 0)},
		{vote(2, 4, 1, 3), event(3, 1)},
		{vote(3, 4, 1, 4), event(3, 1)},
		{vote(2, 3, 1, 3), last(3, constant(0))},
		{vote(2, 4, 4, 3), last(3, constant(1))},
		{vote(3, 4, 4, 3), last(3, constant(0))},
		{vote(2, 2, 1, 2), last(3, vote(2, 2, 1, 2))},
		{node(api.NodeNot, 3), last(3, constant(1))},
		{node(api.NodeNot, 4), last(3, constant(0))},
		{node(api.NodeNot, 2), last(3, node(api.NodeNot, 2))},
		{node(api.NodeAnd, 0, 3, 1), last(3, constant(0))},
		{node(api.NodeAnd, 4, 3, 4), last(3, constant(0))},
		{node(api.NodeAnd, 4, 4, 4), last(3, constant(1))},
		{node(api.NodeAnd, 1, 4, 4), event(3, 1)},
		{node(api.NodeAnd, 2, 4, 1), last(3, node(api.NodeAnd, 2, 1))},
		{node(api.NodeAnd, 2, 4, 2), last(3, node(api.NodeAnd, 2, 2))},
		{node(api.NodeOr, 0, 4, 1), last(3, constant(1))},
		{node(api.NodeOr, 3, 4, 3), last(3, constant(1))},
		{node(api.NodeOr, 3, 3, 3), last(3, constant(0))},
		{node(api.NodeOr, 3, 1, 3), event(3, 1)},
		{node(api.NodeOr, 3, 2, 1), last(3, node(api.NodeOr, 2, 1))},
		{node(api.NodeXor, 3, 4, 4), last(3, constant(0))},
		{node(api.NodeXor, 4, 4, 4), last(3, constant(1))},
		{node(api.NodeXor, 4, 1, 4), event(3, 1)},
		{node(api.NodeXor, 3, 1, 4), last(3, node(api.NodeNot, 1))},
		{node(api.NodeXor, 3, 1, 3), event(3, 1)},
		{node(api.NodeXor, 2, 4, 1), last(3, node(api.NodeXor, 2, 1), node(api.NodeNot, 3))},
		{node(api.NodeXor, 2, 3, 1), last(3, node(api.NodeXor, 2, 1))},
		{node(api.NodeXor, 2, 1, 2), last(3, node(api.NodeXor, 2, 1, 2))},
		{node(api.NodeAnd, 2), event(3, 2)},
		{node(api.NodeOr, 0), event(3, 0)},
		{node(api.NodeXor, 0), event(3, 0)},
		{vote(1, 1), event(3, 1)},
	} {
		f := last(3, constant(0), constant(1), c.n)
		g, err := normal.Fold(f)
		formed(t, g, err, c.want, nil, "Fold", f)
	}
}

// What nodes become is what later nodes have as arguments, and what Top does not need is left out.
func TestFoldOfGivenFormulas(t *testing.T) {
	for _, c := range []struct{ f, want api.Formula }{
		{event(3, 2), event(3, 2)},
		{api.Formula{Vars: 3, Nodes: []api.Node{constant(1), node(api.NodeAnd, 0, 1)}, Top: 2}, event(3, 2)},
		{api.Formula{Vars: 1, Nodes: []api.Node{constant(1), constant(0), node(api.NodeAnd, 0, 0)}, Top: 1}, last(1, constant(1))},
		{api.Formula{Vars: 1, Nodes: []api.Node{constant(1), constant(0), node(api.NodeAnd, 0, 0)}, Top: 2}, last(1, constant(0))},
		{last(0, constant(0), node(api.NodeNot, 0), node(api.NodeNot, 1), node(api.NodeXor, 0, 1, 2)), last(0, constant(1))},
		// An or of one argument is this argument; a not of it is one of an event, a not of a not stays.
		{last(2, node(api.NodeOr, 1), node(api.NodeNot, 2), node(api.NodeNot, 3)), last(2, node(api.NodeNot, 1), node(api.NodeNot, 2))},
		// A xor with the constant true is moved behind a new not, and so is all that follows.
		{
			last(2, constant(1), node(api.NodeXor, 0, 2, 1), node(api.NodeOr, 3, 0), node(api.NodeXor, 3, 2, 4)),
			last(2, node(api.NodeXor, 0, 1), node(api.NodeNot, 2), node(api.NodeOr, 3, 0), node(api.NodeXor, 3, 4), node(api.NodeNot, 5)),
		},
		// A xor that is needed only as what its not negates, and one that is not needed at all.
		{
			last(2, node(api.NodeXor, 0, 1), constant(1), node(api.NodeXor, 1, 0), node(api.NodeXor, 3, 2, 3, 3)),
			last(2, node(api.NodeXor, 0, 1), node(api.NodeNot, 2)),
		},
		// What decides a node makes the other arguments needless.
		{last(2, node(api.NodeAnd, 0, 1), constant(1), node(api.NodeOr, 2, 3), node(api.NodeAnd, 4, 1)), event(2, 1)},
	} {
		g, err := normal.Fold(c.f)
		formed(t, g, err, c.want, nil, "Fold", c.f)
	}
}
