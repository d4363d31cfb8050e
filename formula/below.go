package formula

import "faultline/api"

// Support returns the set of the events below Top. A Top that is an event is the only one.
func Support(f api.Formula) (int, error) {
	if err := Check(f); err != nil {
		return 0, err
	}
	events, _ := below(f)
	return events, nil
}

// Size returns the number of nodes below Top, and of all their arguments.
func Size(f api.Formula) (nodes, args int, err error) {
	if err := Check(f); err != nil {
		return 0, 0, err
	}
	_, needed := below(f)
	for i, n := range f.Nodes {
		if needed[i] {
			nodes++
			args += len(n.Args)
		}
	}
	return nodes, args, nil
}

// Depth returns the number of nodes on the longest way from Top down to an event or a const.
func Depth(f api.Formula) (int, error) {
	if err := Check(f); err != nil {
		return 0, err
	}
	// The events have the depth 0 and stay so.
	depths := make([]int, f.Vars+len(f.Nodes))
	for i, n := range f.Nodes {
		greatest := 0
		for _, arg := range n.Args {
			greatest = max(greatest, depths[arg])
		}
		depths[f.Vars+i] = 1 + greatest
	}
	return depths[f.Top], nil
}

// Trim returns the formula with the nodes below Top alone, in their order.
func Trim(f api.Formula) (api.Formula, error) {
	if err := Check(f); err != nil {
		return api.Formula{}, err
	}
	_, needed := below(f)
	trimmed := api.Formula{Vars: f.Vars}
	// The events keep their numbers, the nodes get new ones.
	numbers := make([]int, f.Vars+len(f.Nodes))
	for i := range f.Vars {
		numbers[i] = i
	}
	for i, n := range f.Nodes {
		if needed[i] {
			numbers[f.Vars+i] = f.Vars + len(trimmed.Nodes)
			trimmed.Nodes = append(trimmed.Nodes, api.Node{Kind: n.Kind, K: n.K, Args: renumbered(n.Args, numbers)})
		}
	}
	trimmed.Top = numbers[f.Top]
	return trimmed, nil
}

// renumbered returns the new numbers of arguments, in new memory.
func renumbered(args, numbers []int) []int {
	var list []int
	for _, arg := range args {
		list = append(list, numbers[arg])
	}
	return list
}

// below returns the set of the events below Top, and for each node whether it is below Top.
func below(f api.Formula) (events int, needed []bool) {
	reached := make([]bool, f.Vars+len(f.Nodes))
	reached[f.Top] = true
	// Arguments are earlier nodes: when a node is looked at, all nodes that may need it have been.
	for i := len(f.Nodes) - 1; i >= 0; i-- {
		if reached[f.Vars+i] {
			for _, arg := range f.Nodes[i].Args {
				reached[arg] = true
			}
		}
	}
	for i := range f.Vars {
		if reached[i] {
			events |= 1 << i
		}
	}
	return events, reached[f.Vars:]
}
