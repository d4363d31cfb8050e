package normal

import (
	"faultline/api"
	"faultline/formula"
)

// What an argument becomes if it becomes a constant; otherwise it becomes an argument, which is not below 0.
const (
	never  = -2
	always = -1
)

// Fold returns a formula with the same values without constants, or a constant alone.
func Fold(f api.Formula) (api.Formula, error) {
	if err := formula.Check(f); err != nil {
		return api.Formula{}, err
	}
	d := draft{vars: f.Vars}
	became := events(f.Vars)
	for _, n := range f.Nodes {
		became = append(became, d.fold(n, replaced(n.Args, became)))
	}
	top := became[f.Top]
	switch top {
	case never:
		top = d.add(api.NodeConst, 0)
	case always:
		top = d.add(api.NodeConst, 1)
	}
	return d.trimmed(top)
}

// fold returns what a node becomes, from what its arguments have become.
func (d *draft) fold(n api.Node, args []int) int {
	rest, trues := unfixed(args)
	switch n.Kind {
	case api.NodeConst:
		return constant(n.K == 1)
	case api.NodeNot:
		// A not is a xor of its argument and true.
		return d.parity(rest, trues == 0)
	case api.NodeXor:
		return d.parity(rest, trues%2 == 1)
	case api.NodeAnd:
		return d.threshold(n.Kind, len(args)-trues, rest)
	case api.NodeOr:
		return d.threshold(n.Kind, 1-trues, rest)
	}
	return d.threshold(n.Kind, n.K-trues, rest)
}

// unfixed returns the arguments that are no constants, and the number of those that are always true.
func unfixed(args []int) (rest []int, trues int) {
	for _, arg := range args {
		switch arg {
		case never:
		case always:
			trues++
		default:
			rest = append(rest, arg)
		}
	}
	return rest, trues
}

// constant returns what an argument becomes that always has the value.
func constant(value bool) int {
	if value {
		return always
	}
	return never
}

// parity returns what a xor of the rest becomes, or, if flipped, its negation.
func (d *draft) parity(rest []int, flipped bool) int {
	if len(rest) == 0 {
		return constant(flipped)
	}
	arg := rest[0]
	if len(rest) > 1 {
		arg = d.add(api.NodeXor, 0, rest...)
	}
	if flipped {
		arg = d.add(api.NodeNot, 0, arg)
	}
	return arg
}

// threshold returns what an and, an or, or a vote becomes that is true if at least k of the rest are.
func (d *draft) threshold(kind, k int, rest []int) int {
	if k <= 0 || k > len(rest) {
		return constant(k <= 0)
	}
	if len(rest) == 1 {
		return rest[0]
	}
	if kind != api.NodeVote {
		k = 0
	}
	return d.add(kind, k, rest...)
}
