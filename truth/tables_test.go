package truth_test

import (
	"math/rand/v2"
	"slices"
	"testing"

	"faultline/api"
	"faultline/truth"
)

// weightsOf returns the numbers of the sets with 0, 1, .., vars events for which the table is true.
func weightsOf(vars int, table []bool) []int {
	weights := make([]int, vars+1)
	for failed, value := range table {
		events := 0
		for i := range vars {
			events += failed >> i % 2
		}
		if value {
			weights[events]++
		}
	}
	return weights
}

// relevantOf returns the set of the events for which a set without the event has another value than with it.
func relevantOf(vars int, table []bool) int {
	relevant := 0
	for i := range vars {
		for failed := range table {
			if failed>>i%2 == 0 && table[failed] != table[failed+1<<i] {
				relevant |= 1 << i
			}
		}
	}
	return relevant
}

// monotoneOf reports whether no set for which the table is true becomes one for which it is false by one event more.
func monotoneOf(vars int, table []bool) bool {
	for failed, value := range table {
		for i := range vars {
			if value && failed>>i%2 == 0 && !table[failed+1<<i] {
				return false
			}
		}
	}
	return true
}

// lookedAt compares what all functions but Equal return with what they must.
func lookedAt(t *testing.T, f api.Formula) {
	t.Helper()
	want := tableOf(f)
	table, err := truth.Table(f)
	listed(t, table, err, want, nil, "Table", f)
	weights, err := truth.Weights(f)
	listed(t, weights, err, weightsOf(f.Vars, want), nil, "Weights", f)
	trues := len(slices.DeleteFunc(slices.Clone(want), func(v bool) bool { return !v }))
	count, err := truth.Count(f)
	got(t, count, err, trues, nil, "Count", f)
	monotone, err := truth.Monotone(f)
	got(t, monotone, err, monotoneOf(f.Vars, want), nil, "Monotone", f)
	relevant, err := truth.Relevant(f)
	got(t, relevant, err, relevantOf(f.Vars, want), nil, "Relevant", f)
}

// compared compares what Equal returns with what it must.
func compared(t *testing.T, f, g api.Formula) {
	t.Helper()
	first, second := tableOf(f), tableOf(g)
	want := slices.IndexFunc(from(0, len(first)-1), func(failed int) bool { return first[failed] != second[failed] })
	equal, at, err := truth.Equal(f, g)
	if equal != (want == -1) || at != want || err != nil {
		t.Errorf("Equal(%v, %v) = %v, %v, %v, want %v", f, g, equal, at, err, want)
	}
}

func TestAllFunctions(t *testing.T) {
	for _, f := range someFormulas() {
		lookedAt(t, f)
	}
}

func TestEqualOfPairs(t *testing.T) {
	formulas := slices.Concat(randomFormulas(11, 400, 4, 5), largest(4))
	for i, f := range formulas {
		compared(t, f, f)
		for _, g := range formulas[:i] {
			if f.Vars == g.Vars {
				compared(t, f, g)
				compared(t, g, f)
			}
		}
	}
}

// Each formula that is true for one set alone, and each that is false for one set alone.
func TestOneSet(t *testing.T) {
	for vars := range 13 {
		none, all := last(vars, constant(0)), last(vars, constant(1))
		lookedAt(t, none)
		lookedAt(t, all)
		sets := from(0, 1<<vars-1)
		if vars > 5 {
			sets = []int{0, 1, 1 << (vars - 1), 1<<vars - 2, 1<<vars - 1}
		}
		for _, failed := range sets {
			f, g := trueAt(vars, failed), falseAt(vars, failed)
			lookedAt(t, f)
			lookedAt(t, g)
			for _, c := range []struct {
				f, g api.Formula
				at   int
			}{{none, f, failed}, {f, none, failed}, {all, g, failed}, {g, all, failed}, {f, f, -1}, {g, g, -1}, {f, g, 0}} {
				equal, at, err := truth.Equal(c.f, c.g)
				if equal != (c.at == -1) || at != c.at || err != nil {
					t.Errorf("Equal(%v, %v) = %v, %v, %v, want %v", c.f, c.g, equal, at, err, c.at)
				}
			}
		}
	}
}

// The least of several differences is returned.
func TestLeastDifference(t *testing.T) {
	r := rand.New(rand.NewPCG(10, 12))
	for range 500 {
		vars := 2 + r.IntN(11)
		var sets, others []int
		least := -1
		for _, failed := range r.Perm(1 << vars)[:min(15, 1<<vars)] {
			switch inFirst, inSecond := r.IntN(2) == 0, r.IntN(2) == 0; {
			case inFirst && inSecond:
				sets, others = append(sets, failed), append(others, failed)
				continue
			case inFirst:
				sets = append(sets, failed)
			case inSecond:
				others = append(others, failed)
			default:
				continue
			}
			if least == -1 || failed < least {
				least = failed
			}
		}
		f, g := trueAt(vars, sets...), trueAt(vars, others...)
		equal, at, err := truth.Equal(f, g)
		if equal != (least == -1) || at != least || err != nil {
			t.Errorf("Equal(%v, %v) = %v, %v, %v, want %v", f, g, equal, at, err, least)
		}
	}
}

func TestExamples(t *testing.T) {
	f := last(3, vote(2, 0, 1, 2))
	table, err := truth.Table(f)
	listed(t, table, err, []bool{false, false, false, true, false, true, true, true}, nil, "Table", f)
	for _, c := range []struct {
		f        api.Formula
		weights  []int
		monotone bool
		relevant int
	}{
		{f, []int{0, 0, 3, 1}, true, 7},
		{last(2, node(api.NodeXor, 0, 1)), []int{0, 2, 0}, false, 3},
		{last(1, node(api.NodeNot, 0), node(api.NodeOr, 0, 1)), []int{1, 1}, true, 0},
		{last(1, node(api.NodeNot, 0), node(api.NodeAnd, 0, 1)), []int{0, 0}, true, 0},
		{last(0, constant(0)), []int{0}, true, 0},
		{last(0, constant(1)), []int{1}, true, 0},
		{last(1, node(api.NodeNot, 0)), []int{1, 0}, false, 1},
		{api.Formula{Vars: 1}, []int{0, 1}, true, 1},
		{api.Formula{Vars: 3, Top: 1}, []int{0, 1, 2, 1}, true, 2},
		// A negation that does not matter: event 0, or both the event 1 and not event 0.
		{last(2, node(api.NodeNot, 0), node(api.NodeAnd, 1, 2), node(api.NodeOr, 0, 3)), []int{0, 2, 1}, true, 3},
		// Absorption: event 0, or the events 0 and 1.
		{last(2, node(api.NodeAnd, 0, 1), node(api.NodeOr, 0, 2)), []int{0, 1, 1}, true, 1},
		// An event that occurs twice counts twice.
		{last(3, vote(2, 1, 1, 0)), []int{0, 1, 2, 1}, true, 2},
		{last(3, node(api.NodeXor, 1, 1, 0)), []int{0, 1, 2, 1}, true, 1},
	} {
		weights, err := truth.Weights(c.f)
		listed(t, weights, err, c.weights, nil, "Weights", c.f)
		monotone, err := truth.Monotone(c.f)
		got(t, monotone, err, c.monotone, nil, "Monotone", c.f)
		relevant, err := truth.Relevant(c.f)
		got(t, relevant, err, c.relevant, nil, "Relevant", c.f)
		lookedAt(t, c.f)
	}
}
