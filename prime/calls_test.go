package prime_test

import (
	"math"
	"math/bits"
	"math/rand/v2"
	"slices"
	"testing"

	"faultline/api"
	"faultline/cube"
	"faultline/formula"
	"faultline/prime"
)

// formulaFault is a formula with the error that all functions must return for it.
type formulaFault struct {
	f    api.Formula
	want error
}

// formulaFaults returns formulas with every error, and with several of which the first one counts.
func formulaFaults() []formulaFault {
	wide := node(api.NodeAnd, from(0, 12)...)
	many := slices.Repeat([]api.Node{constant(0)}, 129)
	return []formulaFault{
		{api.Formula{Vars: -1}, api.ErrRange},
		{api.Formula{Vars: 25}, api.ErrRange},
		{api.Formula{Vars: 25, Nodes: many}, api.ErrRange},
		{last(13, append([]api.Node{node(6)}, many...)...), api.ErrLarge},
		{last(2, node(-1, 0), wide), api.ErrType},
		{last(2, node(6), wide), api.ErrType},
		{last(2, node(api.NodeAnd)), api.ErrShape},
		{last(2, node(api.NodeNot, 0, 1)), api.ErrShape},
		{last(2, node(api.NodeAnd, 0, 2)), api.ErrIndex},
		{last(2, node(api.NodeXor, -1)), api.ErrIndex},
		{last(2, constant(2)), api.ErrRange},
		{last(2, vote(3, 0, 1)), api.ErrRange},
		{last(2, api.Node{Kind: api.NodeOr, K: 1, Args: []int{0}}), api.ErrForm},
		{api.Formula{Vars: 2, Top: 2}, api.ErrIndex},
		{api.Formula{}, api.ErrIndex},
		{last(13, wide), api.ErrLarge},
		{last(24, node(api.NodeOr, from(0, 6)...), node(api.NodeOr, from(7, 12)...), node(api.NodeXor, 24, 25)), api.ErrLarge},
		{last(13, wide, node(6)), api.ErrType},
		{last(13, wide, vote(0, 1)), api.ErrRange},
		{api.Formula{Vars: 13, Nodes: []api.Node{wide}, Top: 14}, api.ErrIndex},
		// These events make no difference, but they are below Top.
		{last(13, node(api.NodeXor, from(0, 12)...), constant(0), node(api.NodeAnd, 13, 14)), api.ErrLarge},
		// These are not below Top.
		{api.Formula{Vars: 13, Nodes: []api.Node{wide, constant(1)}, Top: 14}, nil},
		{api.Formula{Vars: 24, Nodes: []api.Node{wide}, Top: 3}, nil},
		{last(24, node(api.NodeAnd, from(12, 23)...)), nil},
		{last(2, vote(2, 0, 1)), nil},
		{last(0, constant(0)), nil},
	}
}

// cubeFault is a cube with the error that Implicant and Prime must return for it if the formula has none.
type cubeFault struct {
	c    api.Cube
	want error
}

// cubeFaults returns cubes with every error, and with several of which the first one counts, for a number of events.
func cubeFaults(vars int) []cubeFault {
	list := []cubeFault{
		{api.Cube{}, nil},
		{api.Cube{Yes: 1<<vars - 1}, nil},
		{api.Cube{No: 1<<vars - 1}, nil},
		{api.Cube{Yes: -1}, api.ErrRange},
		{api.Cube{No: -1}, api.ErrRange},
		{api.Cube{Yes: 1 << 24}, api.ErrRange},
		{api.Cube{No: 1 << 24}, api.ErrRange},
		{api.Cube{Yes: 1<<24 + 1, No: 1}, api.ErrRange},
		{api.Cube{Yes: math.MinInt, No: math.MaxInt}, api.ErrRange},
		{api.Cube{Yes: 1, No: 1}, api.ErrTwice},
		{api.Cube{Yes: 1<<24 - 1, No: 1<<24 - 1}, api.ErrTwice},
		{api.Cube{Yes: 1 << 23, No: 3 << 22}, api.ErrTwice},
	}
	for event := vars; event < 24; event++ {
		list = append(list, cubeFault{api.Cube{Yes: 1 << event}, api.ErrIndex}, cubeFault{api.Cube{No: 1 << event}, api.ErrIndex})
	}
	return list
}

// refused reports functions that do not return the error wanted, and nothing else with it; for a cube there is another
// error if the formula has none.
func refused(t *testing.T, f api.Formula, c api.Cube, want, forCube error) {
	t.Helper()
	for name, call := range lists() {
		if list, err := call(f); err != want || err != nil && len(list) > 0 {
			t.Errorf("%s(%v) = %v, %v, want the error %v", name, f, list, err, want)
		}
	}
	if want == nil {
		want = forCube
	}
	for name, call := range answers() {
		if is, err := call(f, c); err != want || err != nil && is {
			t.Errorf("%s(%v, %v) = %v, %v, want the error %v", name, f, c, is, err, want)
		}
	}
}

// answers returns the functions of a formula and a cube.
func answers() map[string]func(f api.Formula, c api.Cube) (bool, error) {
	return map[string]func(f api.Formula, c api.Cube) (bool, error){
		"Implicant": prime.Implicant,
		"Prime":     prime.Prime,
	}
}

// All functions return the errors in their order: that of the formula, ErrLarge for its support, that of the cube,
// ErrIndex.
func TestErrors(t *testing.T) {
	for _, first := range formulaFaults() {
		// Some formulas have no number of events that is in its range.
		for _, second := range cubeFaults(min(max(first.f.Vars, 0), 24)) {
			refused(t, first.f, second.c, first.want, second.want)
		}
	}
}

// Twelve events may be below Top, and no more, wherever they are.
func TestLimitOfEvents(t *testing.T) {
	for n := 1; n <= 16; n++ {
		for _, first := range []int{0, 24 - n} {
			f := last(24, node(api.NodeOr, from(first, first+n-1)...))
			want := error(nil)
			if n > 12 {
				want = api.ErrLarge
			}
			refused(t, f, api.Cube{Yes: 1}, want, nil)
		}
	}
}

// oddInts returns ints of which some are in no range.
func oddInts() []int {
	return append(from(-1, 30), math.MinInt, -1<<32, -129, 1<<23, 1<<24-1, 1<<24, 1<<32, math.MaxInt-128, math.MaxInt)
}

// spoiled returns formulas of which up to two ints have become others.
func spoiled(formulas []api.Formula) []api.Formula {
	r := rand.New(rand.NewPCG(13, 50))
	values := oddInts()
	var list []api.Formula
	for _, f := range formulas {
		f = copied(f)
		for range 1 + r.IntN(2) {
			places := []*int{&f.Vars, &f.Top}
			for i := range f.Nodes {
				places = append(places, &f.Nodes[i].Kind, &f.Nodes[i].K)
				for j := range f.Nodes[i].Args {
					places = append(places, &f.Nodes[i].Args[j])
				}
			}
			*places[r.IntN(len(places))] = values[r.IntN(len(values))]
		}
		list = append(list, f)
	}
	return list
}

// Whatever ints are in formulas and cubes, the functions return the errors of layers 8 and 12, or those of this one.
func TestRaw(t *testing.T) {
	r := rand.New(rand.NewPCG(13, 51))
	values := oddInts()
	found := map[error]int{}
	for _, f := range slices.Concat(spoiled(fewEvents()), spoiled(manyEvents())) {
		c := api.Cube{Yes: values[r.IntN(len(values))], No: values[r.IntN(len(values))]}
		want := formula.Check(f)
		if support, err := formula.Support(f); err == nil && bits.OnesCount(uint(support)) > 12 {
			want = api.ErrLarge
		}
		forCube := cube.Check(c)
		if forCube == nil && max(c.Yes, c.No) >= 1<<max(f.Vars, 0) {
			forCube = api.ErrIndex
		}
		refused(t, f, c, want, forCube)
		if want == nil {
			want = forCube
		}
		found[want]++
	}
	for _, err := range []error{nil, api.ErrRange, api.ErrType, api.ErrShape, api.ErrIndex, api.ErrForm, api.ErrTwice} {
		if found[err] == 0 {
			t.Errorf("no call has the error %v", err)
		}
	}
}

// copied returns a formula of the same parts in memory of its own, with other values behind all slices.
func copied(f api.Formula) api.Formula {
	nodes := make([]api.Node, 0, len(f.Nodes)+1)
	for _, n := range f.Nodes {
		n.Args = append(slices.Clone(n.Args), -7, -8)[:len(n.Args)]
		nodes = append(nodes, n)
	}
	f.Nodes = append(nodes, node(-7, -8))[:len(nodes)]
	return f
}

// equal reports whether two nodes have the same parts.
func equal(m, n api.Node) bool {
	return m.Kind == n.Kind && m.K == n.K && slices.Equal(m.Args, n.Args)
}

// No function changes a formula, or the memory behind it.
func TestArgumentsStay(t *testing.T) {
	for _, f := range slices.Concat(fewEvents(), manyEvents(), spoiled(fewEvents())) {
		g, want := copied(f), copied(f)
		for _, call := range lists() {
			call(g)
		}
		for _, call := range answers() {
			call(g, api.Cube{Yes: 1})
		}
		if g.Vars != want.Vars || g.Top != want.Top || !slices.EqualFunc(g.Nodes[:len(f.Nodes)+1], want.Nodes[:len(f.Nodes)+1], equal) {
			t.Errorf("%v has changed: %v", f, g)
		}
		for _, n := range g.Nodes {
			if behind := n.Args[:len(n.Args)+2][len(n.Args):]; !slices.Equal(behind, []int{-7, -8}) {
				t.Errorf("%v: the memory behind %v has changed: %v", f, n, behind)
			}
		}
	}
}

// Two results are the same and share no memory, whatever is called in between.
func TestResultsAreNew(t *testing.T) {
	for _, f := range slices.Concat(fewEvents(), manyEvents()) {
		for name, call := range lists() {
			first, err := call(f)
			want := slices.Clone(first)
			second, fault := call(f)
			listed(t, second, fault, want, err, name, f)
			first = first[:cap(first)]
			for i := range first {
				first[i] = api.Cube{Yes: -7, No: -8}
			}
			for _, other := range lists() {
				other(f)
			}
			listed(t, second, fault, want, err, name, f)
		}
	}
}
