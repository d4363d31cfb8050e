package formula_test

import (
	"slices"
	"testing"

	"faultline/api"
	"faultline/formula"
)

// measures are the results of Support, Size and Depth.
type measures struct{ support, nodes, args, depth int }

// measured reports a formula for which these are not the wanted ones.
func measured(t *testing.T, f api.Formula, want measures) {
	t.Helper()
	support, err := formula.Support(f)
	got(t, support, err, want.support, nil, "Support", f)
	nodes, args, err := formula.Size(f)
	got(t, [2]int{nodes, args}, err, [2]int{want.nodes, want.args}, nil, "Size", f)
	depth, err := formula.Depth(f)
	got(t, depth, err, want.depth, nil, "Depth", f)
}

// measuresOf returns what the functions must return.
func measuresOf(f api.Formula) measures {
	m := measures{depth: depthOf(f, f.Top, map[int]int{})}
	for _, arg := range reached(f) {
		if arg < f.Vars {
			m.support += 1 << arg
		} else {
			m.nodes++
			m.args += len(f.Nodes[arg-f.Vars].Args)
		}
	}
	return m
}

// trimmedOf returns what Trim must return.
func trimmedOf(f api.Formula) api.Formula {
	kept := append(from(0, f.Vars-1), slices.DeleteFunc(reached(f), func(arg int) bool { return arg < f.Vars })...)
	g := api.Formula{Vars: f.Vars, Top: slices.Index(kept, f.Top)}
	for _, arg := range kept[f.Vars:] {
		n := f.Nodes[arg-f.Vars]
		var args []int
		for _, a := range n.Args {
			args = append(args, slices.Index(kept, a))
		}
		g.Nodes = append(g.Nodes, api.Node{Kind: n.Kind, K: n.K, Args: args})
	}
	return g
}

func TestMeasures(t *testing.T) {
	for _, f := range someFormulas() {
		measured(t, f, measuresOf(f))
	}
}

// A node counts once, an argument as often as it occurs; a Top that is an event is the only thing below it.
func TestMeasuresOfGivenFormulas(t *testing.T) {
	chain := api.Formula{Vars: 2, Top: 129}
	for i := range 128 {
		chain.Nodes = append(chain.Nodes, node(api.NodeAnd, slices.Repeat([]int{i + 1}, 16)...))
	}
	withTop := func(f api.Formula, top int) api.Formula {
		f.Top = top
		return f
	}
	for _, c := range []struct {
		f    api.Formula
		want measures
	}{
		{example(), measures{7, 2, 5, 2}},
		{withTop(example(), 3), measures{3, 1, 2, 1}},
		{withTop(example(), 0), measures{1, 0, 0, 0}},
		{withTop(example(), 2), measures{4, 0, 0, 0}},
		{api.Formula{Vars: 24, Top: 23}, measures{1 << 23, 0, 0, 0}},
		{last(0, constant(1)), measures{0, 1, 0, 1}},
		{last(3, constant(1)), measures{0, 1, 0, 1}},
		{last(3, constant(0), constant(1)), measures{0, 1, 0, 1}},
		{last(3, constant(0), node(api.NodeOr, 3)), measures{0, 2, 1, 2}},
		{last(3, constant(0), node(api.NodeOr, 3, 1)), measures{2, 2, 2, 2}},
		{last(3, node(api.NodeAnd, 0, 1), node(api.NodeOr, 2)), measures{4, 1, 1, 1}},
		{last(3, node(api.NodeAnd, 0, 1), node(api.NodeNot, 2), node(api.NodeXor, 4, 2)), measures{4, 2, 3, 2}},
		{last(2, node(api.NodeOr, 0, 0, 0)), measures{1, 1, 3, 1}},
		{last(2, node(api.NodeNot, 0), node(api.NodeAnd, 2, 2, 2)), measures{1, 2, 4, 2}},
		{last(2, node(api.NodeNot, 0), node(api.NodeAnd, 2, 1), node(api.NodeOr, 2, 3, 1)), measures{3, 3, 6, 3}},
		{last(2, node(api.NodeNot, 0), node(api.NodeNot, 2), node(api.NodeAnd, 3, 0)), measures{1, 3, 4, 3}},
		{last(2, node(api.NodeNot, 0), node(api.NodeNot, 2), node(api.NodeAnd, 0, 3)), measures{1, 3, 4, 3}},
		{last(2, node(api.NodeXor, 0, 1), node(api.NodeAnd, 0, 2), node(api.NodeOr, 0, 1)), measures{3, 1, 2, 1}},
		{chain, measures{2, 128, 2048, 128}},
		{withTop(chain, 2), measures{2, 1, 16, 1}},
		{withTop(chain, 65), measures{2, 64, 1024, 64}},
	} {
		measured(t, c.f, c.want)
	}
}

func TestTrim(t *testing.T) {
	for _, f := range someFormulas() {
		g, err := formula.Trim(f)
		formed(t, g, err, trimmedOf(f), nil, "Trim", f)
	}
}

// Only what Top needs stays, in its order and with its K; events stay where they are.
func TestTrimOfGivenFormulas(t *testing.T) {
	mixed := []api.Node{
		node(api.NodeAnd, 0, 1), constant(1), node(api.NodeNot, 3), vote(2, 0, 2, 4), node(api.NodeXor, 6, 4, 6), node(api.NodeOr, 5, 7, 1),
	}
	for _, c := range []struct {
		top  int
		want api.Formula
	}{
		{0, api.Formula{Vars: 3, Top: 0}},
		{2, api.Formula{Vars: 3, Top: 2}},
		{3, last(3, node(api.NodeAnd, 0, 1))},
		{4, last(3, constant(1))},
		{5, last(3, node(api.NodeAnd, 0, 1), node(api.NodeNot, 3))},
		{6, last(3, constant(1), vote(2, 0, 2, 3))},
		{7, last(3, constant(1), vote(2, 0, 2, 3), node(api.NodeXor, 4, 3, 4))},
		{8, last(3, mixed...)},
	} {
		g, err := formula.Trim(api.Formula{Vars: 3, Nodes: mixed, Top: c.top})
		formed(t, g, err, c.want, nil, "Trim", c.top)
	}
}

// A formula without nodes has none afterwards, and no event is lost.
func TestTrimOfEvents(t *testing.T) {
	for vars := range 25 {
		for top := range vars {
			f := api.Formula{Vars: vars, Top: top}
			g, err := formula.Trim(f)
			formed(t, g, err, f, nil, "Trim", f)
			f.Nodes = slices.Repeat([]api.Node{node(api.NodeNot, top)}, 128)
			g, err = formula.Trim(f)
			formed(t, g, err, api.Formula{Vars: vars, Top: top}, nil, "Trim", vars, top)
		}
	}
}
