package ternary_test

import (
	"math/rand/v2"
	"slices"
	"testing"

	"faultline/api"
	"faultline/ternary"
)

// call is a function with its result as a list, of which a zero value is the empty one.
type call struct {
	name string
	f    func(f api.Formula, c api.Cube) ([]int, error)
}

// calls returns all functions.
func calls() []call {
	number := func(name string, f func(f api.Formula, c api.Cube) (int, error)) call {
		return call{name, func(g api.Formula, c api.Cube) ([]int, error) {
			result, err := f(g, c)
			return slices.DeleteFunc([]int{result}, func(i int) bool { return i == 0 }), err
		}}
	}
	return []call{
		number("Value", ternary.Value),
		{"Values", ternary.Values},
		number("Decided", func(f api.Formula, c api.Cube) (int, error) {
			decided, err := ternary.Decided(f, c)
			if decided {
				return 1, err
			}
			return 0, err
		}),
		number("Next", ternary.Next),
	}
}

// faultOf returns the error that all functions must return first.
func faultOf(f api.Formula, c api.Cube) error {
	if err := fault(f); err != nil {
		return err
	}
	inBoth := false
	for _, set := range []int{c.Yes, c.No} {
		if set < 0 || set > 1<<f.Vars-1 {
			return api.ErrRange
		}
	}
	for i := range f.Vars {
		inBoth = inBoth || c.Yes>>i%2 == 1 && c.No>>i%2 == 1
	}
	if inBoth {
		return api.ErrTwice
	}
	return nil
}

// refused compares the error of every function with the one that it must return, and reports a result with an error.
func refused(t *testing.T, f api.Formula, c api.Cube) error {
	t.Helper()
	want := faultOf(f, c)
	for _, call := range calls() {
		result, err := call.f(f, c)
		if want != nil {
			listed(t, result, err, nil, want, call.name, f, c)
		} else if err != nil {
			t.Errorf("%s%v: %v", call.name, []any{f, c}, err)
		}
	}
	return want
}

// step is a fault of a formula whose nodes have at least two arguments, and its error.
type step struct {
	name   string
	change func(f *api.Formula)
	want   error
}

// steps returns faults in the order in which Check looks for them.
func steps() []step {
	list := []step{
		{"events", func(f *api.Formula) { f.Vars = -1 }, api.ErrRange},
		{"nodes", func(f *api.Formula) { f.Nodes = append(f.Nodes, make([]api.Node, 128)...) }, api.ErrLarge},
	}
	for i := range 3 {
		kErr := error(api.ErrForm)
		if i == 1 {
			kErr = api.ErrRange
		}
		list = append(list,
			step{"kind", func(f *api.Formula) { f.Nodes[i].Kind = 6 }, api.ErrType},
			step{"shape", func(f *api.Formula) { f.Nodes[i].Args = append(f.Nodes[i].Args, make([]int, 16)...) }, api.ErrShape},
			step{"argument", func(f *api.Formula) { f.Nodes[i].Args[1] = 3 + i }, api.ErrIndex},
			step{"K", func(f *api.Formula) { f.Nodes[i].K = 4 }, kErr},
		)
	}
	return append(list, step{"Top", func(f *api.Formula) { f.Top = 6 }, api.ErrIndex})
}

// spoiled returns formulas of which up to two ints have become others.
func spoiled(seed uint64, formulas []api.Formula) []api.Formula {
	r := rand.New(rand.NewPCG(9, seed))
	var list []api.Formula
	for _, f := range formulas {
		f = copied(f)
		for range 1 + r.IntN(2) {
			places := []*int{&f.Vars, &f.Top}
			for i := range f.Nodes {
				places = append(places, &f.Nodes[i].Kind, &f.Nodes[i].K)
				for j := range f.Nodes[i].Args {
					places = append(places, &f.Nodes[i].Args[j])
				}
			}
			values := append(from(-1, 30), oddInts()...)
			*places[r.IntN(len(places))] = values[r.IntN(len(values))]
		}
		list = append(list, f)
	}
	return list
}

// rawFormulas returns formulas of any ints.
func rawFormulas(seed uint64, count int) []api.Formula {
	r := rand.New(rand.NewPCG(9, seed))
	values := append(from(-1, 10), oddInts()...)
	some := func() int { return values[r.IntN(len(values))] }
	var list []api.Formula
	for range count {
		f := api.Formula{Vars: some(), Top: some()}
		for range r.IntN(4) {
			n := api.Node{Kind: some(), K: some()}
			for range r.IntN(4) {
				n.Args = append(n.Args, some())
			}
			f.Nodes = append(f.Nodes, n)
		}
		list = append(list, f)
	}
	return list
}

// brokenFormulas returns formulas, most of which Check refuses, some with each of its errors.
func brokenFormulas() []api.Formula {
	var list []api.Formula
	for _, s := range steps() {
		f := last(3, node(api.NodeAnd, 0, 1), vote(2, 0, 2, 3), node(api.NodeXor, 4, 0))
		s.change(&f)
		list = append(list, f)
	}
	many := append(smallFormulas(), randomFormulas(3, 2000, 24, 30)...)
	return slices.Concat(list, spoiled(4, many), rawFormulas(5, 5000), []api.Formula{{}, {Top: 1}, {Vars: -1, Top: -1}})
}

// someCubes returns cubes, most of which are none of a formula of so many events.
func someCubes(vars int) []api.Cube {
	numbers := append(from(-2, 9), oddInts()...)
	if vars >= 0 && vars <= 24 {
		numbers = append(numbers, 1<<vars-2, 1<<vars-1, 1<<vars, 1<<vars+1, -1<<vars)
	}
	var list []api.Cube
	for _, yes := range numbers {
		for _, no := range numbers {
			list = append(list, api.Cube{Yes: yes, No: no})
		}
	}
	return list
}

// Yes and No are sets of events of the formula, and no event is in both.
func TestErrorsOfCubes(t *testing.T) {
	found := map[error]int{}
	for vars := range 25 {
		formulas := []api.Formula{last(vars, constant(1))}
		if vars > 0 {
			formulas = append(formulas, last(vars, node(api.NodeNot, vars-1)), api.Formula{Vars: vars})
		}
		for _, f := range formulas {
			for _, c := range someCubes(vars) {
				found[refused(t, f, c)]++
			}
		}
	}
	for _, err := range []error{nil, api.ErrRange, api.ErrTwice} {
		if found[err] == 0 {
			t.Errorf("no cube has the error %v", err)
		}
	}
}

func TestGivenErrors(t *testing.T) {
	for _, c := range []struct {
		cube api.Cube
		want error
	}{
		{api.Cube{Yes: 7}, nil},
		{api.Cube{No: 7}, nil},
		{api.Cube{Yes: 8}, api.ErrRange},
		{api.Cube{No: 8}, api.ErrRange},
		{api.Cube{Yes: -1}, api.ErrRange},
		{api.Cube{No: -1}, api.ErrRange},
		{api.Cube{Yes: 8, No: 8}, api.ErrRange},
		{api.Cube{Yes: 9, No: 1}, api.ErrRange},
		{api.Cube{Yes: 1, No: 9}, api.ErrRange},
		{api.Cube{Yes: -1, No: 1}, api.ErrRange},
		{api.Cube{Yes: 1, No: -1}, api.ErrRange},
		{api.Cube{Yes: 1, No: 1}, api.ErrTwice},
		{api.Cube{Yes: 1, No: 3}, api.ErrTwice},
		{api.Cube{Yes: 4, No: 7}, api.ErrTwice},
		{api.Cube{Yes: 3, No: 4}, nil},
	} {
		if err := refused(t, example(), c.cube); err != c.want {
			t.Errorf("%v: the error wanted is %v, not %v", c.cube, err, c.want)
		}
	}
}

// The errors of the formula come first, whatever the cube is.
func TestErrorsOfFormulas(t *testing.T) {
	found := map[error]int{}
	cubes := []api.Cube{{}, {Yes: 1, No: 1}, {Yes: -1}, {No: 1 << 30}, {Yes: 1 << 24, No: 1 << 24}}
	for _, f := range brokenFormulas() {
		for _, c := range cubes {
			found[refused(t, f, c)]++
		}
	}
	for _, err := range []error{nil, api.ErrRange, api.ErrLarge, api.ErrType, api.ErrShape, api.ErrIndex, api.ErrForm, api.ErrTwice} {
		if found[err] == 0 {
			t.Errorf("no formula has the error %v", err)
		}
	}
}

// No function changes a formula, or the memory behind it.
func TestArgumentsStay(t *testing.T) {
	for _, f := range slices.Concat(someFormulas(), brokenFormulas()) {
		g := copied(f)
		for _, c := range []api.Cube{{}, {Yes: 1}, {Yes: 1, No: 2}} {
			for _, call := range calls() {
				call.f(g, c)
			}
		}
		if !same(f, g) || g.Nodes[:len(g.Nodes)+1][len(g.Nodes)].Kind != -7 {
			t.Errorf("%v has changed: %v", f, g)
		}
		for _, n := range g.Nodes {
			if behind := n.Args[:len(n.Args)+2][len(n.Args):]; !slices.Equal(behind, []int{-7, -8}) {
				t.Errorf("%v: the memory behind %v has changed: %v", f, n, behind)
			}
		}
	}
}

// Two lists of values share no memory.
func TestValuesAreNew(t *testing.T) {
	for _, f := range someFormulas() {
		first, _ := ternary.Values(f, api.Cube{})
		second, _ := ternary.Values(f, api.Cube{})
		want := slices.Clone(second)
		memory := first[:cap(first)]
		for i := range memory {
			memory[i] = 7
		}
		listed(t, second, nil, want, nil, "Values", f)
	}
}
