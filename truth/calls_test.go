package truth_test

import (
	"math/rand/v2"
	"slices"
	"testing"

	"faultline/api"
	"faultline/truth"
)

// call is a function of one formula with its result as a list, in which zero values do not occur.
type call struct {
	name string
	f    func(f api.Formula) ([]int, error)
}

// numbers returns those of the numbers that are not 0.
func numbers(list ...int) []int {
	return slices.DeleteFunc(list, func(i int) bool { return i == 0 })
}

// number returns 1 for true and 0 for false.
func number(b bool) int {
	if b {
		return 1
	}
	return 0
}

// calls returns all functions, Equal with the formula twice.
func calls() []call {
	return []call{
		{"Table", func(f api.Formula) ([]int, error) {
			table, err := truth.Table(f)
			return make([]int, len(table)), err
		}},
		{"Count", func(f api.Formula) ([]int, error) {
			count, err := truth.Count(f)
			return numbers(count), err
		}},
		{"Weights", func(f api.Formula) ([]int, error) {
			weights, err := truth.Weights(f)
			return make([]int, len(weights)), err
		}},
		{"Equal", func(f api.Formula) ([]int, error) {
			equal, at, err := truth.Equal(f, f)
			return numbers(number(equal), at), err
		}},
		{"Monotone", func(f api.Formula) ([]int, error) {
			monotone, err := truth.Monotone(f)
			return numbers(number(monotone)), err
		}},
		{"Relevant", func(f api.Formula) ([]int, error) {
			relevant, err := truth.Relevant(f)
			return numbers(relevant), err
		}},
	}
}

// step is a fault of a formula whose nodes have at least two arguments, and its error.
type step struct {
	name   string
	change func(f *api.Formula)
	want   error
}

// steps returns faults in the order in which Check looks for them.
func steps() []step {
	list := []step{
		{"events", func(f *api.Formula) { f.Vars = -1 }, api.ErrRange},
		{"nodes", func(f *api.Formula) { f.Nodes = append(f.Nodes, make([]api.Node, 128)...) }, api.ErrLarge},
	}
	for i := range 3 {
		kErr := error(api.ErrForm)
		if i == 1 {
			kErr = api.ErrRange
		}
		list = append(list,
			step{"kind", func(f *api.Formula) { f.Nodes[i].Kind = 6 }, api.ErrType},
			step{"shape", func(f *api.Formula) { f.Nodes[i].Args = append(f.Nodes[i].Args, make([]int, 16)...) }, api.ErrShape},
			step{"argument", func(f *api.Formula) { f.Nodes[i].Args[1] = 3 + i }, api.ErrIndex},
			step{"K", func(f *api.Formula) { f.Nodes[i].K = 4 }, kErr},
		)
	}
	return append(list, step{"Top", func(f *api.Formula) { f.Top = 6 }, api.ErrIndex})
}

// spoiled returns formulas of which up to two ints have become others.
func spoiled(seed uint64, formulas []api.Formula) []api.Formula {
	r := rand.New(rand.NewPCG(10, seed))
	var list []api.Formula
	for _, f := range formulas {
		f = copied(f)
		for range 1 + r.IntN(2) {
			places := []*int{&f.Vars, &f.Top}
			for i := range f.Nodes {
				places = append(places, &f.Nodes[i].Kind, &f.Nodes[i].K)
				for j := range f.Nodes[i].Args {
					places = append(places, &f.Nodes[i].Args[j])
				}
			}
			values := append(from(-1, 30), oddInts()...)
			*places[r.IntN(len(places))] = values[r.IntN(len(values))]
		}
		list = append(list, f)
	}
	return list
}

// rawFormulas returns formulas of any ints.
func rawFormulas(seed uint64, count int) []api.Formula {
	r := rand.New(rand.NewPCG(10, seed))
	values := append(from(-1, 10), oddInts()...)
	some := func() int { return values[r.IntN(len(values))] }
	var list []api.Formula
	for range count {
		f := api.Formula{Vars: some(), Top: some()}
		for range r.IntN(4) {
			n := api.Node{Kind: some(), K: some()}
			for range r.IntN(4) {
				n.Args = append(n.Args, some())
			}
			f.Nodes = append(f.Nodes, n)
		}
		list = append(list, f)
	}
	return list
}

// brokenFormulas returns formulas, most of which Check refuses, some with each of its errors.
func brokenFormulas() []api.Formula {
	var list []api.Formula
	for _, s := range steps() {
		f := last(3, node(api.NodeAnd, 0, 1), vote(2, 0, 2, 3), node(api.NodeXor, 4, 0))
		s.change(&f)
		list = append(list, f)
	}
	many := append(smallFormulas(), randomFormulas(3, 2000, 24, 30)...)
	return slices.Concat(list, spoiled(4, many), rawFormulas(5, 5000), []api.Formula{{}, {Top: 1}, {Vars: -1, Top: -1}})
}

// refused compares the error of every function of one formula with the one that it must return, and reports a result
// with an error.
func refused(t *testing.T, f api.Formula) error {
	t.Helper()
	want := refusal(f)
	for _, c := range calls() {
		result, err := c.f(f)
		if want != nil {
			listed(t, result, err, nil, want, c.name, f)
		} else if err != nil {
			t.Errorf("%s(%v): %v", c.name, f, err)
		}
	}
	return want
}

// differ compares the error of Equal with the one that it must return, and reports a result with an error.
func differ(t *testing.T, f, g api.Formula) error {
	t.Helper()
	want := fault(f)
	if want == nil {
		want = fault(g)
	}
	if want == nil && f.Vars != g.Vars {
		want = api.ErrShape
	}
	if want == nil && f.Vars > 12 {
		want = api.ErrLarge
	}
	equal, at, err := truth.Equal(f, g)
	if err != want || err != nil && (equal || at != 0) {
		t.Errorf("Equal(%v, %v) = %v, %v, %v, want the error %v", f, g, equal, at, err, want)
	}
	return want
}

// few returns formulas with each of the errors, and with none, not too many for pairs.
func few() []api.Formula {
	var list []api.Formula
	counts := map[error]int{}
	for _, f := range brokenFormulas() {
		if err := fault(f); f.Vars <= 20 && counts[err] < 12 {
			counts[err]++
			list = append(list, f)
		}
	}
	for vars := range 25 {
		list = append(list, last(vars, constant(vars%2)))
	}
	return list
}

// Every function returns the error of Check first, then ErrLarge for more than 12 events, and nothing else with it.
func TestErrorsFirst(t *testing.T) {
	found := map[error]int{}
	for _, f := range brokenFormulas() {
		found[refused(t, f)]++
	}
	for _, err := range []error{nil, api.ErrRange, api.ErrLarge, api.ErrType, api.ErrShape, api.ErrIndex, api.ErrForm} {
		if found[err] == 0 {
			t.Errorf("no formula has the error %v", err)
		}
	}
}

// Of several faults the first one counts.
func TestFirstFault(t *testing.T) {
	list := steps()
	for i, first := range list {
		for j, second := range list[i:] {
			f := last(3, node(api.NodeAnd, 0, 1), vote(2, 0, 2, 3), node(api.NodeXor, 4, 0))
			// The later one is made first, so that the extra nodes come last.
			second.change(&f)
			if j > 0 {
				first.change(&f)
			}
			if err := refused(t, f); err != first.want {
				t.Errorf("%d %s, %d %s: the error wanted is %v, not %v", i, first.name, i+j, second.name, err, first.want)
			}
		}
	}
}

// There may be 12 events and no more, whether the formula depends on them or not.
func TestLimit(t *testing.T) {
	for vars := range 25 {
		want := error(nil)
		if vars > 12 {
			want = api.ErrLarge
		}
		formulas := []api.Formula{last(vars, constant(1))}
		for top := range vars {
			formulas = append(formulas, api.Formula{Vars: vars, Top: top})
		}
		for _, f := range formulas {
			if err := refused(t, f); err != want {
				t.Errorf("%v: the error wanted is %v, not %v", f, err, want)
			}
		}
		if broken := last(vars, constant(2)); refused(t, broken) != api.ErrRange {
			t.Errorf("%v is too large before it is out of range", broken)
		}
	}
}

// Equal returns the error of the first formula, then that of the second one, then ErrShape, then ErrLarge.
func TestErrorsOfEqual(t *testing.T) {
	found := map[error]int{}
	formulas := few()
	for _, f := range formulas {
		for _, g := range formulas {
			found[differ(t, f, g)]++
		}
	}
	for _, err := range []error{nil, api.ErrRange, api.ErrLarge, api.ErrType, api.ErrShape, api.ErrIndex, api.ErrForm} {
		if found[err] == 0 {
			t.Errorf("no pair has the error %v", err)
		}
	}
	badType, badIndex := last(13, node(6)), api.Formula{Vars: 13, Top: 13}
	many, more, good := last(13, constant(0)), last(14, constant(0)), last(12, constant(0))
	for _, c := range []struct {
		f, g api.Formula
		want error
	}{
		{badType, badIndex, api.ErrType},
		{badIndex, badType, api.ErrIndex},
		{badType, good, api.ErrType},
		{good, badType, api.ErrType},
		{many, badIndex, api.ErrIndex},
		{badIndex, many, api.ErrIndex},
		{many, more, api.ErrShape},
		{more, many, api.ErrShape},
		{many, good, api.ErrShape},
		{good, many, api.ErrShape},
		{many, many, api.ErrLarge},
		{good, good, nil},
	} {
		if err := differ(t, c.f, c.g); err != c.want {
			t.Errorf("Equal(%v, %v): the error wanted is %v, not %v", c.f, c.g, err, c.want)
		}
	}
}

// No function changes a formula, or the memory behind it.
func TestArgumentsStay(t *testing.T) {
	for _, f := range slices.Concat(someFormulas(), brokenFormulas()) {
		g, h := copied(f), copied(f)
		for _, c := range calls() {
			c.f(g)
		}
		truth.Equal(g, h)
		for _, g := range []api.Formula{g, h} {
			if !same(f, g) || g.Nodes[:len(g.Nodes)+1][len(g.Nodes)].Kind != -7 {
				t.Errorf("%v has changed: %v", f, g)
			}
			for _, n := range g.Nodes {
				if behind := n.Args[:len(n.Args)+2][len(n.Args):]; !slices.Equal(behind, []int{-7, -8}) {
					t.Errorf("%v: the memory behind %v has changed: %v", f, n, behind)
				}
			}
		}
	}
}

// Two tables share no memory, nor do two lists of weights.
func TestResultsAreNew(t *testing.T) {
	for _, f := range someFormulas() {
		table, _ := truth.Table(f)
		weights, _ := truth.Weights(f)
		sameTable, _ := truth.Table(f)
		sameWeights, _ := truth.Weights(f)
		wantTable, wantWeights := slices.Clone(sameTable), slices.Clone(sameWeights)
		table, weights = table[:cap(table)], weights[:cap(weights)]
		for i := range table {
			table[i] = !table[i]
		}
		for i := range weights {
			weights[i] = -7
		}
		listed(t, sameTable, nil, wantTable, nil, "Table", f)
		listed(t, sameWeights, nil, wantWeights, nil, "Weights", f)
	}
}
