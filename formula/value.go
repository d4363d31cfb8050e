package formula

import "faultline/api"

// Value returns the value of Top for a set of failed events, or ErrRange if failed is no such set.
func Value(f api.Formula, failed int) (bool, error) {
	values, err := Values(f, failed)
	if err != nil {
		return false, err
	}
	return valueOf(f, values, failed, f.Top), nil
}

// Values returns the values of all nodes for a set of failed events, or ErrRange if failed is no such set.
func Values(f api.Formula, failed int) ([]bool, error) {
	if err := Check(f); err != nil {
		return nil, err
	}
	if failed < 0 || failed >= 1<<f.Vars {
		return nil, api.ErrRange
	}
	values := make([]bool, len(f.Nodes))
	for i, n := range f.Nodes {
		count := 0
		for _, arg := range n.Args {
			if valueOf(f, values, failed, arg) {
				count++
			}
		}
		values[i] = decide(n, count)
	}
	return values, nil
}

// valueOf returns the value of an event, or that of a node, which is among the values.
func valueOf(f api.Formula, values []bool, failed, arg int) bool {
	if arg < f.Vars {
		return failed>>arg&1 == 1
	}
	return values[arg-f.Vars]
}

// decide returns the value of a node of whose arguments count are true.
func decide(n api.Node, count int) bool {
	switch n.Kind {
	case api.NodeConst:
		return n.K == 1
	case api.NodeNot:
		return count == 0
	case api.NodeAnd:
		return count == len(n.Args)
	case api.NodeOr:
		return count > 0
	case api.NodeVote:
		return count >= n.K
	}
	return count%2 == 1
}
