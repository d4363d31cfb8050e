package formula_test

import (
	"math/rand/v2"
	"slices"
	"testing"

	"faultline/api"
	"faultline/formula"
)

// call is a function with its results as a list, in which zero values do not occur.
type call struct {
	name string
	f    func(f api.Formula) ([]int, error)
}

// numbers returns those of the numbers that are not 0.
func numbers(list ...int) []int {
	return slices.DeleteFunc(list, func(i int) bool { return i == 0 })
}

// calls returns all functions but Valid, those that need a set of failed events with one and with one out of range.
func calls() []call {
	list := []call{
		{"Check", func(f api.Formula) ([]int, error) { return nil, formula.Check(f) }},
		{"Support", func(f api.Formula) ([]int, error) {
			support, err := formula.Support(f)
			return numbers(support), err
		}},
		{"Size", func(f api.Formula) ([]int, error) {
			nodes, args, err := formula.Size(f)
			return numbers(nodes, args), err
		}},
		{"Depth", func(f api.Formula) ([]int, error) {
			depth, err := formula.Depth(f)
			return numbers(depth), err
		}},
		{"Trim", func(f api.Formula) ([]int, error) {
			g, err := formula.Trim(f)
			return numbers(g.Vars, len(g.Nodes), g.Top), err
		}},
	}
	for _, failed := range []int{0, -1} {
		list = append(list,
			call{"Value", func(f api.Formula) ([]int, error) {
				value, err := formula.Value(f, failed)
				if value {
					return []int{1}, err
				}
				return nil, err
			}},
			call{"Values", func(f api.Formula) ([]int, error) {
				values, err := formula.Values(f, failed)
				return make([]int, len(values)), err
			}},
		)
	}
	return list
}

// spoiled returns formulas of which up to two ints have become others.
func spoiled(seed uint64, formulas []api.Formula) []api.Formula {
	r := rand.New(rand.NewPCG(8, seed))
	var list []api.Formula
	for _, f := range formulas {
		f = copied(f)
		for range 1 + r.IntN(2) {
			places := []*int{&f.Vars, &f.Top}
			for i := range f.Nodes {
				places = append(places, &f.Nodes[i].Kind, &f.Nodes[i].K)
				for j := range f.Nodes[i].Args {
					places = append(places, &f.Nodes[i].Args[j])
				}
			}
			values := append(from(-1, 30), oddInts()...)
			*places[r.IntN(len(places))] = values[r.IntN(len(values))]
		}
		list = append(list, f)
	}
	return list
}

// rawFormulas returns formulas of any ints.
func rawFormulas(seed uint64, count int) []api.Formula {
	r := rand.New(rand.NewPCG(8, seed))
	values := append(from(-1, 10), oddInts()...)
	some := func() int { return values[r.IntN(len(values))] }
	var list []api.Formula
	for range count {
		f := api.Formula{Vars: some(), Top: some()}
		for range r.IntN(4) {
			n := api.Node{Kind: some(), K: some()}
			for range r.IntN(4) {
				n.Args = append(n.Args, some())
			}
			f.Nodes = append(f.Nodes, n)
		}
		list = append(list, f)
	}
	return list
}

// brokenFormulas returns formulas, most of which Check refuses, some with each of its errors.
func brokenFormulas() []api.Formula {
	var list []api.Formula
	for _, s := range steps() {
		f := last(3, node(api.NodeAnd, 0, 1), vote(2, 0, 2, 3), node(api.NodeXor, 4, 0))
		s.change(&f)
		list = append(list, f)
	}
	many := append(smallFormulas(), randomFormulas(3, 2000, 24, 30)...)
	return slices.Concat(list, spoiled(4, many), rawFormulas(5, 5000), []api.Formula{{}, {Top: 1}, {Vars: -1, Top: -1}})
}

// Every function returns the error of Check first, and nothing else with it.
func TestErrorsFirst(t *testing.T) {
	found := map[error]int{}
	for _, f := range brokenFormulas() {
		want := fault(f)
		found[want]++
		if want == nil {
			continue
		}
		for _, c := range calls() {
			result, err := c.f(f)
			listed(t, result, err, nil, want, c.name, f)
		}
		if g, err := formula.Trim(f); g.Nodes != nil {
			t.Errorf("Trim(%v) = %v, %v", f, g, err)
		}
	}
	for _, err := range []error{nil, api.ErrRange, api.ErrLarge, api.ErrType, api.ErrShape, api.ErrIndex, api.ErrForm} {
		if found[err] == 0 {
			t.Errorf("no formula has the error %v", err)
		}
	}
}

// No function changes a formula, or the memory behind it.
func TestArgumentsStay(t *testing.T) {
	for _, f := range slices.Concat(someFormulas(), brokenFormulas()) {
		g := copied(f)
		for _, c := range calls() {
			c.f(g)
		}
		if !same(f, g) || g.Nodes[:len(g.Nodes)+1][len(g.Nodes)].Kind != -7 {
			t.Errorf("%v has changed: %v", f, g)
		}
		for _, n := range g.Nodes {
			if behind := n.Args[:len(n.Args)+2][len(n.Args):]; !slices.Equal(behind, []int{-7, -8}) {
				t.Errorf("%v: the memory behind %v has changed: %v", f, n, behind)
			}
		}
	}
}

// filled sets all memory of a formula to values that are in no formula, other ones for each node.
func filled(f api.Formula) {
	for i, n := range f.Nodes {
		memory := n.Args[:cap(n.Args)]
		for j := range memory {
			memory[j] = -10 - i
		}
	}
}

// The formula that Trim returns shares no memory with the argument or with another result, nor do two of its nodes.
func TestTrimIsNew(t *testing.T) {
	for _, f := range someFormulas() {
		g := copied(f)
		first, _ := formula.Trim(g)
		second, _ := formula.Trim(g)
		filled(g)
		clear(g.Nodes)
		filled(first)
		for i, n := range first.Nodes {
			if !slices.Equal(n.Args, slices.Repeat([]int{-10 - i}, len(n.Args))) {
				t.Errorf("Trim(%v): node %d shares memory with another one", f, i)
			}
		}
		clear(first.Nodes)
		formed(t, second, nil, trimmedOf(f), nil, "Trim", f)
	}
}

// Two lists of values share no memory.
func TestValuesAreNew(t *testing.T) {
	for _, f := range someFormulas() {
		first, _ := formula.Values(f, 0)
		second, _ := formula.Values(f, 0)
		memory := first[:cap(first)]
		for i := range memory {
			memory[i] = !memory[i]
		}
		listed(t, second, nil, valuesOf(f, 0), nil, "Values", f)
	}
}
