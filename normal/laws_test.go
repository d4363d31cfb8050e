package normal_test

import (
	"testing"

	"faultline/api"
	"faultline/formula"
	"faultline/normal"
)

// rewritten returns the result of a function, which must be a good formula of as many events, or false if it is too
// large.
func rewritten(t *testing.T, f api.Formula, function func(api.Formula) (api.Formula, error), name string) (api.Formula, bool) {
	t.Helper()
	g, err := function(f)
	if err == api.ErrLarge {
		return api.Formula{}, false
	}
	if err != nil || formula.Check(g) != nil || g.Vars != f.Vars {
		t.Fatalf("%s(%v) = %v, %v", name, f, g, err)
	}
	return g, true
}

// allNeeded reports a formula with a node that Top does not need.
func allNeeded(t *testing.T, f api.Formula) {
	t.Helper()
	if nodes, _, err := formula.Size(f); err != nil || nodes != len(f.Nodes) {
		t.Errorf("%v is not trimmed", f)
	}
}

// Push keeps the values; what it returns has no xor, and only events are negated.
func TestPushKeeps(t *testing.T) {
	for _, f := range someFormulas() {
		g, ok := rewritten(t, f, normal.Push, "Push")
		if !ok {
			continue
		}
		agrees(t, g, func(failed int) bool { return value(t, f, failed) }, "Push", f)
		allNeeded(t, g)
		for _, n := range g.Nodes {
			if n.Kind == api.NodeXor || n.Kind == api.NodeNot && n.Args[0] >= g.Vars {
				t.Errorf("Push(%v) = %v with the node %v", f, g, n)
			}
		}
	}
}

// Fold keeps the values; what it returns has no const, unless it is a single one, and nothing is left to fold.
func TestFoldKeeps(t *testing.T) {
	for _, f := range someFormulas() {
		g, ok := rewritten(t, f, normal.Fold, "Fold")
		if !ok {
			continue
		}
		agrees(t, g, func(failed int) bool { return value(t, f, failed) }, "Fold", f)
		allNeeded(t, g)
		if kinds(g)[api.NodeConst] > 0 && len(g.Nodes) > 1 {
			t.Errorf("Fold(%v) = %v has a const", f, g)
		}
		h, err := normal.Fold(g)
		formed(t, h, err, g, nil, "Fold", g)
	}
}

// The dual is true where the formula is false for the complement; the dual of the dual has the values of the formula.
func TestDualOfDual(t *testing.T) {
	for _, f := range someFormulas() {
		g, ok := rewritten(t, f, normal.Dual, "Dual")
		if !ok {
			continue
		}
		agrees(t, g, func(failed int) bool { return !value(t, f, 1<<f.Vars-1-failed) }, "Dual", f)
		if h, ok := rewritten(t, g, normal.Dual, "Dual"); ok {
			agrees(t, h, func(failed int) bool { return value(t, f, failed) }, "Dual", g)
		}
	}
}

// The dual of a formula without negations and xors has none, and its dual is the formula again.
func TestDualWithoutNegations(t *testing.T) {
	for _, f := range someFormulas() {
		f = copied(f)
		for i, n := range f.Nodes {
			if n.Kind == api.NodeNot || n.Kind == api.NodeXor {
				f.Nodes[i].Kind = api.NodeAnd
			}
		}
		g, ok := rewritten(t, f, normal.Dual, "Dual")
		if count := kinds(g); !ok || count[api.NodeNot]+count[api.NodeXor] > 0 {
			t.Errorf("Dual(%v) = %v", f, g)
		}
		h, err := normal.Dual(g)
		formed(t, h, err, f, nil, "Dual", g)
	}
}

// Assign has the value of the set with the events of Yes and without those of No.
func TestAssignedValues(t *testing.T) {
	for _, f := range fewFormulas() {
		if len(f.Nodes) > 126 {
			continue
		}
		for _, c := range someCubes(f.Vars) {
			g, err := normal.Assign(f, c)
			if err != nil || formula.Check(g) != nil || g.Vars != f.Vars {
				t.Fatalf("Assign(%v, %v) = %v, %v", f, c, g, err)
			}
			agrees(t, g, func(failed int) bool { return value(t, f, (failed|c.Yes)&^c.No) }, "Assign", f, c)
			if h, ok := rewritten(t, g, normal.Fold, "Fold"); ok {
				agrees(t, h, func(failed int) bool { return value(t, g, failed) }, "Fold", g)
			}
		}
	}
}

// Replace has the value of the formula for the set in which the event is as the other formula says.
func TestReplacedValues(t *testing.T) {
	for _, f := range fewFormulas() {
		if len(f.Nodes) > 60 {
			continue
		}
		for _, g := range partners(f) {
			for _, i := range places(f.Vars) {
				h, err := normal.Replace(f, i, g)
				if err != nil || formula.Check(h) != nil || h.Vars != f.Vars {
					t.Fatalf("Replace(%v, %v, %v) = %v, %v", f, i, g, h, err)
				}
				agrees(t, h, func(failed int) bool {
					if value(t, g, failed) {
						return value(t, f, failed|1<<i)
					}
					return value(t, f, failed&^(1<<i))
				}, "Replace", f, i, g)
			}
		}
	}
}
