package normal

import "faultline/api"

// draft is a formula that grows node by node. It may get more nodes than a formula may have.
type draft struct {
	vars  int
	nodes []api.Node
}

// add appends a node, whose arguments nobody else may use, and returns its own number as an argument.
func (d *draft) add(kind, k int, args ...int) int {
	d.nodes = append(d.nodes, api.Node{Kind: kind, K: k, Args: args})
	return d.vars + len(d.nodes) - 1
}

// include appends the nodes of f, where the arguments of the list stand for its events, and returns the one that stands
// for its Top.
func (d *draft) include(f api.Formula, stand []int) int {
	for _, n := range f.Nodes {
		stand = append(stand, d.add(n.Kind, n.K, replaced(n.Args, stand)...))
	}
	return stand[f.Top]
}

// whole returns the formula of all nodes, or ErrLarge if they are too many.
func (d *draft) whole(top int) (api.Formula, error) {
	if len(d.nodes) > api.MaxNodes {
		return api.Formula{}, api.ErrLarge
	}
	return api.Formula{Vars: d.vars, Nodes: d.nodes, Top: top}, nil
}

// trimmed returns the formula of the nodes below top alone, or ErrLarge if these are too many. (formula.Trim would
// already refuse too many nodes of which few are below top.)
func (d *draft) trimmed(top int) (api.Formula, error) {
	needed := d.below(top)
	kept := draft{vars: d.vars}
	// Nothing stands for a node that is not needed, because no needed node has it as an argument.
	stand := append(events(d.vars), make([]int, len(d.nodes))...)
	for i, n := range d.nodes {
		if needed[d.vars+i] {
			stand[d.vars+i] = kept.add(n.Kind, n.K, replaced(n.Args, stand)...)
		}
	}
	return kept.whole(stand[top])
}

// below returns for each event and node whether top is or needs it.
func (d *draft) below(top int) []bool {
	needed := make([]bool, d.vars+len(d.nodes))
	needed[top] = true
	// Arguments are earlier nodes: when a node is looked at, all nodes that may need it have been.
	for i := len(d.nodes) - 1; i >= 0; i-- {
		if needed[d.vars+i] {
			for _, arg := range d.nodes[i].Args {
				needed[arg] = true
			}
		}
	}
	return needed
}

// events returns the events 0 to vars - 1, each of which stands for itself.
func events(vars int) []int {
	list := make([]int, vars)
	for i := range list {
		list[i] = i
	}
	return list
}

// replaced returns what stands for each of the arguments, in new memory.
func replaced(args, stand []int) []int {
	var list []int
	for _, arg := range args {
		list = append(list, stand[arg])
	}
	return list
}
