package prime_test

import (
	"fmt"
	"slices"
	"testing"

	"faultline/api"
	"faultline/normal"
	"faultline/prime"
	"faultline/truth"
)

// within returns the number of cubes of a list that a state is in.
func within(list []api.Cube, state int) int {
	count := 0
	for _, c := range list {
		if contains(c, state) {
			count++
		}
	}
	return count
}

// A formula is true in a state exactly if the state is in a prime, and exactly if it is in a cube of Irredundant. (P13.2)
func TestStatesInCubes(t *testing.T) {
	for _, f := range slices.Concat(fewEvents(), manyEvents()) {
		states := subsets(eventsBelow(t, f))
		for _, call := range []string{"All", "Irredundant"} {
			list, err := lists()[call](f)
			for _, state := range states {
				if value := holds(t, f, state); err != nil || value != (within(list, state) > 0) {
					t.Fatalf("%s(%v) = %v, %v, but in the state %d the value is %v", call, f, list, err, state, value)
				}
			}
		}
	}
}

// Events that are not in the support are in no prime, and make no difference in any state. (P13.2)
func TestFurtherEvents(t *testing.T) {
	f := last(8, node(api.NodeNot, 6), node(api.NodeAnd, 3, 8), node(api.NodeAnd, 6, 7), node(api.NodeOr, 9, 10))
	list, err := prime.All(f)
	listed(t, list, err, []api.Cube{{Yes: 8, No: 64}, {Yes: 136}, {Yes: 192}}, nil, "All", f)
	for state := range 1 << 8 {
		if value := holds(t, f, state); value != (within(list, state) > 0) {
			t.Errorf("All(%v) = %v, but in the state %d the value is %v", f, list, state, value)
		}
	}
}

// Every implicant implies a prime, and nothing else does. (P13.3)
func TestImplicantsImplyPrimes(t *testing.T) {
	for _, f := range slices.Concat(fewEvents(), randomFormulas(21, 20, 20, 24, 2, 5, 6, 9, 20, 23)) {
		list, err := prime.All(f)
		for _, c := range cubesOf(eventsBelow(t, f)) {
			implies := slices.ContainsFunc(list, func(p api.Cube) bool { return c.Yes&p.Yes == p.Yes && c.No&p.No == p.No })
			is, fault := prime.Implicant(f, c)
			if is != implies || err != nil || fault != nil {
				t.Errorf("Implicant(%v, %v) = %v, %v, but the primes are %v, %v", f, c, is, fault, list, err)
			}
		}
	}
}

// Every element of the lists is a prime; the essential ones are among those of Irredundant, and each of these has a state
// that is in no other one of them. (P13.4)
func TestNoneCanBeLeftOut(t *testing.T) {
	for _, f := range slices.Concat(fewEvents(), manyEvents()) {
		support := eventsBelow(t, f)
		some, err := prime.Essential(f)
		list, fault := prime.Irredundant(f)
		if err != nil || fault != nil {
			t.Fatalf("%v: %v, %v", f, err, fault)
		}
		for _, c := range some {
			if !slices.Contains(list, c) {
				t.Errorf("Essential(%v) = %v, but Irredundant = %v", f, some, list)
			}
		}
		for i, c := range list {
			is, err := prime.Prime(f, c)
			got(t, is, err, true, nil, "Prime", f, c)
			if !alone(list, i, support) {
				t.Errorf("Irredundant(%v) = %v, from which %v can be left out", f, list, c)
			}
		}
	}
}

// Two formulas of few events have the same primes exactly if they are equal. (P13.5)
func TestEqualFormulas(t *testing.T) {
	var formulas []api.Formula
	for vars := range 4 {
		formulas = append(formulas, randomFormulas(30+uint64(vars), 120, 8, vars, from(0, vars-1)...)...)
	}
	equals := 0
	for i, f := range formulas {
		for _, g := range formulas[:i] {
			if f.Vars == g.Vars {
				equals += agree(t, f, g)
			}
		}
	}
	if equals == 0 || equals == len(formulas)*(len(formulas)-1)/2 {
		t.Errorf("%d pairs of formulas are equal", equals)
	}
}

// agree reports formulas that have the same primes and are not equal, or are equal and have not; it returns 1 if they
// are equal.
func agree(t *testing.T, f, g api.Formula) int {
	t.Helper()
	equal, _, err := truth.Equal(f, g)
	first, fault := prime.All(f)
	second, other := prime.All(g)
	if err != nil || fault != nil || other != nil || equal != slices.Equal(first, second) {
		t.Errorf("%v and %v: equal %v, %v, but the primes are %v, %v and %v, %v", f, g, equal, err, first, fault, second, other)
	}
	if equal {
		return 1
	}
	return 0
}

// Formulas with the same table have the same primes, and those with the same primes have the same table: all those of
// two events. (P13.5)
func TestPrimesAndTables(t *testing.T) {
	tables, lists := map[string]string{}, map[string]string{}
	for _, f := range smallFormulas() {
		if f.Vars != 2 {
			continue
		}
		table, err := truth.Table(f)
		list, fault := prime.All(f)
		if err != nil || fault != nil {
			t.Fatalf("%v: %v, %v", f, err, fault)
		}
		one, other := fmt.Sprint(table), fmt.Sprint(list)
		if tables[other] != "" && tables[other] != one || lists[one] != "" && lists[one] != other {
			t.Errorf("%v with the table %s has the primes %s, but others %s and %s", f, one, other, tables[other], lists[one])
		}
		tables[other], lists[one] = one, other
	}
	if len(tables) != 16 {
		t.Errorf("there are %d tables of two events, not 16", len(tables))
	}
}

// Formulas that are rewritten, or that are changed in one state alone, of up to twelve events. (P13.5)
func TestRewrittenFormulas(t *testing.T) {
	formulas := slices.Concat(fewEvents()[2000:], sums(api.NodeOr, 40, 20, 12, from(0, 11)...), []api.Formula{vacuous(12, from(0, 11)...)})
	equals, differ := 0, 0
	for _, f := range formulas {
		if g, err := normal.Push(f); err == nil {
			equals += agree(t, f, g)
		}
		if f.Vars > 0 {
			state := node(api.NodeAnd, from(0, f.Vars-1)...)
			g := api.Formula{Vars: f.Vars, Nodes: append(slices.Clone(f.Nodes), state), Top: f.Vars + len(f.Nodes) + 1}
			g.Nodes = append(g.Nodes, node(api.NodeXor, f.Top, g.Top-1))
			differ += 1 - agree(t, f, g)
		}
	}
	if equals < 100 || differ < 100 {
		t.Errorf("only %d formulas were rewritten, only %d changed", equals, differ)
	}
}

// positive returns the formula with its negations and exclusive ors made ands.
func positive(f api.Formula) api.Formula {
	g := api.Formula{Vars: f.Vars, Nodes: slices.Clone(f.Nodes), Top: f.Top}
	for i, n := range g.Nodes {
		if n.Kind == api.NodeNot || n.Kind == api.NodeXor {
			g.Nodes[i] = node(api.NodeAnd, n.Args...)
		}
	}
	return g
}

// The primes of a formula without negation and exclusive or have no event that works; all of them are essential. (P13.6)
func TestPositive(t *testing.T) {
	for _, f := range slices.Concat(fewEvents(), manyEvents()) {
		f = positive(f)
		list, err := prime.All(f)
		if err != nil {
			t.Errorf("All(%v): %v", f, err)
		}
		for _, c := range list {
			if c.No != 0 {
				t.Errorf("All(%v) = %v", f, list)
			}
		}
		same(t, f, list, list, list)
	}
}
