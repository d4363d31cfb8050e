package normal_test

import (
	"fmt"
	"slices"

	"faultline/api"
)

// part is a node that has a name, and names as arguments. An event has its number as its name.
type part struct {
	name    string
	kind, k int
	args    []string
}

// named returns the names of the arguments, all with the same beginning.
func named(beginning string, args []int) []string {
	var list []string
	for _, arg := range args {
		list = append(list, fmt.Sprint(beginning, arg))
	}
	return list
}

// assembled returns the formula of the parts in their order, and ErrLarge if they are too many.
func assembled(vars int, parts []part, top string) (api.Formula, error) {
	if len(parts) > 128 {
		return api.Formula{}, api.ErrLarge
	}
	names := named("", from(0, vars-1))
	f := api.Formula{Vars: vars}
	for _, p := range parts {
		n := api.Node{Kind: p.kind, K: p.k}
		for _, name := range p.args {
			n.Args = append(n.Args, slices.Index(names, name))
		}
		f.Nodes = append(f.Nodes, n)
		names = append(names, p.name)
	}
	f.Top = slices.Index(names, top)
	return f, nil
}

// needed returns the parts that top needs, in their order.
func needed(parts []part, top string) []part {
	all := map[string]part{}
	for _, p := range parts {
		all[p.name] = p
	}
	reached := map[string]bool{}
	var reach func(name string)
	reach = func(name string) {
		if !reached[name] {
			reached[name] = true
			for _, arg := range all[name].args {
				reach(arg)
			}
		}
	}
	reach(top)
	return slices.DeleteFunc(parts, func(p part) bool { return !reached[p.name] })
}

// pushedOf returns what Push must return.
func pushedOf(f api.Formula) (api.Formula, error) {
	var parts []part
	for i := range f.Vars {
		parts = append(parts, part{fmt.Sprint("not ", i), api.NodeNot, 0, named("", []int{i})})
	}
	for i, n := range f.Nodes {
		yes, no := named("", n.Args), named("not ", n.Args)
		p, q := fmt.Sprint(f.Vars+i), fmt.Sprint("not ", f.Vars+i)
		switch n.Kind {
		case api.NodeConst:
			parts = append(parts, part{p, api.NodeConst, n.K, nil}, part{q, api.NodeConst, 1 - n.K, nil})
		case api.NodeNot:
			parts = append(parts, part{p, api.NodeOr, 0, no}, part{q, api.NodeOr, 0, yes})
		case api.NodeAnd:
			parts = append(parts, part{p, api.NodeAnd, 0, yes}, part{q, api.NodeOr, 0, no})
		case api.NodeOr:
			parts = append(parts, part{p, api.NodeOr, 0, yes}, part{q, api.NodeAnd, 0, no})
		case api.NodeVote:
			parts = append(parts, part{p, api.NodeVote, n.K, yes}, part{q, api.NodeVote, len(n.Args) - n.K + 1, no})
		case api.NodeXor:
			parts = append(parts, xorParts(p, q, yes, no)...)
		}
	}
	top := fmt.Sprint(f.Top)
	return assembled(f.Vars, needed(parts, top), top)
}

// xorParts returns the parts of a xor with the name p and its negation with the name q.
func xorParts(p, q string, yes, no []string) []part {
	many := len(yes) - 1
	stage := func(name string, i int) string {
		if i == many {
			return name
		}
		return fmt.Sprint(name, " up to ", i)
	}
	list := []part{{stage(p, 0), api.NodeOr, 0, yes[:1]}, {stage(q, 0), api.NodeOr, 0, no[:1]}}
	for i := range many {
		a, b := stage(p, i), stage(q, i)
		list = append(list,
			part{a + " alone", api.NodeAnd, 0, []string{a, no[i+1]}},
			part{a + " not", api.NodeAnd, 0, []string{b, yes[i+1]}},
			part{stage(p, i+1), api.NodeOr, 0, []string{a + " alone", a + " not"}},
			part{a + " too", api.NodeAnd, 0, []string{a, yes[i+1]}},
			part{a + " neither", api.NodeAnd, 0, []string{b, no[i+1]}},
			part{stage(q, i+1), api.NodeOr, 0, []string{a + " too", a + " neither"}},
		)
	}
	return list
}

// dualOf returns what Dual must return.
func dualOf(f api.Formula) (api.Formula, error) {
	var parts []part
	for i, n := range f.Nodes {
		name, args := fmt.Sprint(f.Vars+i), named("", n.Args)
		switch n.Kind {
		case api.NodeConst:
			parts = append(parts, part{name, api.NodeConst, 1 - n.K, nil})
		case api.NodeNot:
			parts = append(parts, part{name, api.NodeNot, 0, args})
		case api.NodeAnd:
			parts = append(parts, part{name, api.NodeOr, 0, args})
		case api.NodeOr:
			parts = append(parts, part{name, api.NodeAnd, 0, args})
		case api.NodeVote:
			parts = append(parts, part{name, api.NodeVote, len(args) - n.K + 1, args})
		case api.NodeXor:
			if len(args)%2 == 1 {
				parts = append(parts, part{name, api.NodeXor, 0, args})
			} else {
				parts = append(parts, part{"odd " + name, api.NodeXor, 0, args}, part{name, api.NodeNot, 0, []string{"odd " + name}})
			}
		}
	}
	return assembled(f.Vars, parts, fmt.Sprint(f.Top))
}

// copiesOf returns parts like the nodes of a formula, with another beginning of their names, where others may stand for
// the events.
func copiesOf(f api.Formula, beginning string, events map[int]string) ([]part, string) {
	name := func(arg int) string {
		if arg >= f.Vars {
			return fmt.Sprint(beginning, arg)
		}
		if other, ok := events[arg]; ok {
			return other
		}
		return fmt.Sprint(arg)
	}
	var parts []part
	for i, n := range f.Nodes {
		p := part{name: name(f.Vars + i), kind: n.Kind, k: n.K}
		for _, arg := range n.Args {
			p.args = append(p.args, name(arg))
		}
		parts = append(parts, p)
	}
	return parts, name(f.Top)
}

// assignedOf returns what Assign must return for a cube without an error.
func assignedOf(f api.Formula, c api.Cube) (api.Formula, error) {
	events := map[int]string{}
	for i := range f.Vars {
		switch {
		case c.Yes>>i%2 == 1:
			events[i] = "true"
		case c.No>>i%2 == 1:
			events[i] = "false"
		}
	}
	parts, top := copiesOf(f, "", events)
	return assembled(f.Vars, append([]part{{"false", api.NodeConst, 0, nil}, {"true", api.NodeConst, 1, nil}}, parts...), top)
}

// replacedOf returns what Replace must return for formulas of the same events, of which it is one.
func replacedOf(f api.Formula, event int, g api.Formula) (api.Formula, error) {
	first, middle := copiesOf(g, "g", nil)
	second, top := copiesOf(f, "f", map[int]string{event: middle})
	return assembled(f.Vars, append(first, second...), top)
}

// foldedOf returns what Fold must return.
func foldedOf(f api.Formula) (api.Formula, error) {
	became := named("", from(0, f.Vars-1))
	var parts []part
	for i, n := range f.Nodes {
		var args []string
		for _, arg := range n.Args {
			args = append(args, became[arg])
		}
		result, more := foldedPart(n, args, fmt.Sprint(f.Vars+i))
		became, parts = append(became, result), append(parts, more...)
	}
	switch top := became[f.Top]; top {
	case "false":
		return last(f.Vars, constant(0)), nil
	case "true":
		return last(f.Vars, constant(1)), nil
	default:
		return assembled(f.Vars, needed(parts, top), top)
	}
}

// foldedPart returns what a node becomes, case by case as the chapter says, and its new parts.
func foldedPart(n api.Node, args []string, name string) (string, []part) {
	rest := slices.DeleteFunc(slices.Clone(args), func(arg string) bool { return arg == "false" || arg == "true" })
	t := len(slices.DeleteFunc(slices.Clone(args), func(arg string) bool { return arg != "true" }))
	switch n.Kind {
	case api.NodeConst:
		return fmt.Sprint(n.K == 1), nil
	case api.NodeNot:
		if len(rest) == 0 {
			return fmt.Sprint(args[0] == "false"), nil
		}
		return name, []part{{name, api.NodeNot, 0, rest}}
	case api.NodeAnd:
		if slices.Contains(args, "false") {
			return "false", nil
		}
		if len(rest) == 0 {
			return "true", nil
		}
	case api.NodeOr:
		if slices.Contains(args, "true") {
			return "true", nil
		}
		if len(rest) == 0 {
			return "false", nil
		}
	case api.NodeVote:
		if n.K-t <= 0 {
			return "true", nil
		}
		if n.K-t > len(rest) {
			return "false", nil
		}
		n.K -= t
	case api.NodeXor:
		return foldedXor(rest, t, name)
	}
	if len(rest) == 1 {
		return rest[0], nil
	}
	return name, []part{{name, n.Kind, n.K, rest}}
}

// foldedXor returns what a xor becomes of which t other arguments are true, and its new parts.
func foldedXor(rest []string, t int, name string) (string, []part) {
	odd := t%2 == 1
	switch {
	case len(rest) == 0:
		return fmt.Sprint(odd), nil
	case len(rest) == 1 && !odd:
		return rest[0], nil
	case len(rest) == 1:
		return name, []part{{name, api.NodeNot, 0, rest}}
	case !odd:
		return name, []part{{name, api.NodeXor, 0, rest}}
	}
	return name, []part{{"odd " + name, api.NodeXor, 0, rest}, {name, api.NodeNot, 0, []string{"odd " + name}}}
}
