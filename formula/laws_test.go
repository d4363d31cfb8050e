package formula_test

import (
	"testing"

	"faultline/api"
	"faultline/formula"
)

// The value depends on the events of Support only.
func TestValueDependsOnSupport(t *testing.T) {
	for _, f := range someFormulas() {
		support, err := formula.Support(f)
		if err != nil {
			t.Fatal(err)
		}
		others := (1<<f.Vars - 1) &^ support
		for _, failed := range someSets(f.Vars) {
			want, _ := formula.Value(f, failed)
			for _, more := range []int{failed & support, failed | others, failed ^ others} {
				value, err := formula.Value(f, more)
				got(t, value, err, want, nil, "Value", f, failed, more)
			}
		}
	}
}

// growing returns the formula with its negations and xors made ors.
func growing(f api.Formula) api.Formula {
	f = copied(f)
	for i, n := range f.Nodes {
		if n.Kind == api.NodeNot || n.Kind == api.NodeXor {
			f.Nodes[i].Kind = api.NodeOr
		}
	}
	return f
}

// Without negations and xors a value does not become false if more events fail.
func TestValueGrows(t *testing.T) {
	for _, f := range someFormulas() {
		f = growing(f)
		for _, failed := range someSets(f.Vars) {
			before, err := formula.Value(f, failed)
			if err != nil {
				t.Fatal(err)
			}
			for event := range f.Vars {
				after, err := formula.Value(f, failed|1<<event)
				if err != nil || before && !after {
					t.Errorf("%v: with %d of %d the value becomes %v, %v", f, event, failed, after, err)
				}
			}
		}
	}
}

// A trimmed formula has the same values, events, size and depth, and all its nodes are below Top; trimmed again it is
// the same.
func TestTrimKeeps(t *testing.T) {
	for _, f := range someFormulas() {
		g, err := formula.Trim(f)
		if err != nil || formula.Check(g) != nil || g.Vars != f.Vars {
			t.Fatalf("Trim(%v) = %v, %v", f, g, err)
		}
		for _, failed := range someSets(f.Vars) {
			want, _ := formula.Value(f, failed)
			value, err := formula.Value(g, failed)
			got(t, value, err, want, nil, "Value", g, failed)
		}
		measured(t, g, measuresOf(f))
		if nodes, _, err := formula.Size(g); err != nil || nodes != len(g.Nodes) {
			t.Errorf("Trim(%v) has %d nodes, of which %d are needed", f, len(g.Nodes), nodes)
		}
		h, err := formula.Trim(g)
		formed(t, h, err, g, nil, "Trim", g)
	}
}
