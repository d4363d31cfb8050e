package truth_test

import (
	"slices"
	"testing"

	"faultline/api"
	"faultline/formula"
	"faultline/truth"
)

// Weights sum to Count, and none is more than the number of sets with so many events.
func TestWeightsSum(t *testing.T) {
	for _, f := range someFormulas() {
		weights, err := truth.Weights(f)
		if err != nil || len(weights) != f.Vars+1 {
			t.Fatalf("Weights(%v) = %v, %v", f, weights, err)
		}
		sum, most := 0, 1
		for i, weight := range weights {
			if weight < 0 || weight > most {
				t.Errorf("Weights(%v) = %v", f, weights)
			}
			sum += weight
			most = most * (f.Vars - i) / (i + 1)
		}
		count, err := truth.Count(f)
		got(t, count, err, sum, nil, "Count", f)
	}
}

// Relevant events are in the support.
func TestRelevantIsInSupport(t *testing.T) {
	for _, f := range someFormulas() {
		support, err := formula.Support(f)
		if err != nil {
			t.Fatal(err)
		}
		relevant, err := truth.Relevant(f)
		if err != nil || relevant&^support != 0 {
			t.Errorf("Relevant(%v) = %v, %v, but the support is %v", f, relevant, err, support)
		}
	}
}

// positive returns the formula with its negations and xors made ors.
func positive(f api.Formula) api.Formula {
	f = copied(f)
	for i, n := range f.Nodes {
		if n.Kind == api.NodeNot || n.Kind == api.NodeXor {
			f.Nodes[i].Kind = api.NodeOr
		}
	}
	return f
}

// A formula without negations and xors is monotone.
func TestPositiveIsMonotone(t *testing.T) {
	for _, f := range someFormulas() {
		f = positive(f)
		monotone, err := truth.Monotone(f)
		got(t, monotone, err, true, nil, "Monotone", f)
	}
}

// opposite returns a formula that has the other values, in which each event and each node has become its negation.
func opposite(f api.Formula) api.Formula {
	g := api.Formula{Vars: f.Vars}
	add := func(n api.Node) int {
		g.Nodes = append(g.Nodes, n)
		return g.Vars + len(g.Nodes) - 1
	}
	var places []int
	for i := range f.Vars {
		places = append(places, add(node(api.NodeNot, i)))
	}
	for _, n := range f.Nodes {
		var args []int
		for _, arg := range n.Args {
			args = append(args, places[arg])
		}
		switch n.Kind {
		case api.NodeConst:
			places = append(places, add(constant(1-n.K)))
		case api.NodeNot:
			places = append(places, add(node(api.NodeNot, args...)))
		case api.NodeAnd:
			places = append(places, add(node(api.NodeOr, args...)))
		case api.NodeOr:
			places = append(places, add(node(api.NodeAnd, args...)))
		case api.NodeVote:
			places = append(places, add(vote(len(args)+1-n.K, args...)))
		case api.NodeXor:
			place := add(node(api.NodeXor, args...))
			if len(args)%2 == 0 {
				place = add(node(api.NodeNot, place))
			}
			places = append(places, place)
		}
	}
	g.Top = places[f.Top]
	return g
}

// The opposite of a formula differs from it for every set, so at 0, and counts the other sets; it changes with the
// same events. Its own opposite is equal to the formula again, and has the same table.
func TestOpposite(t *testing.T) {
	for _, f := range slices.Concat(smallFormulas(), randomFormulas(13, 300, 12, 12)) {
		g := opposite(f)
		h := opposite(g)
		table, err := truth.Table(f)
		if err != nil {
			t.Fatal(err)
		}
		differs, at, err := truth.Equal(f, g)
		if differs || at != 0 || err != nil {
			t.Errorf("Equal(%v, %v) = %v, %v, %v", f, g, differs, at, err)
		}
		equal, at, err := truth.Equal(f, h)
		if !equal || at != -1 || err != nil {
			t.Errorf("Equal(%v, %v) = %v, %v, %v", f, h, equal, at, err)
		}
		again, err := truth.Table(h)
		listed(t, again, err, table, nil, "Table", h)
		trues, _ := truth.Count(f)
		count, err := truth.Count(g)
		got(t, count, err, len(table)-trues, nil, "Count", g)
		relevant, _ := truth.Relevant(f)
		other, err := truth.Relevant(g)
		got(t, other, err, relevant, nil, "Relevant", g)
	}
}

// Equal says that the tables are the same, or names a set for which the values differ.
func TestEqualAndTables(t *testing.T) {
	formulas := randomFormulas(14, 300, 5, 5)
	for i, f := range formulas {
		for _, g := range formulas[:i+1] {
			if f.Vars != g.Vars {
				continue
			}
			first, _ := truth.Table(f)
			second, _ := truth.Table(g)
			equal, at, err := truth.Equal(f, g)
			if err != nil || equal != slices.Equal(first, second) || equal != (at == -1) {
				t.Fatalf("Equal(%v, %v) = %v, %v, %v", f, g, equal, at, err)
			}
			if equal {
				continue
			}
			one, oneErr := formula.Value(f, at)
			other, otherErr := formula.Value(g, at)
			if oneErr != nil || otherErr != nil || one == other {
				t.Errorf("Equal(%v, %v) = %v, where both are %v (%v, %v)", f, g, at, one, oneErr, otherErr)
			}
		}
	}
}
