package ternary_test

import (
	"math/rand/v2"
	"slices"
	"testing"

	"faultline/api"
	"faultline/formula"
	"faultline/ternary"
)

// completions returns sets that contain Yes and no event of No: all of them if few events are unknown.
func completions(r *rand.Rand, vars int, c api.Cube) []int {
	list := []int{c.Yes}
	free := 0
	for i := range vars {
		if (c.Yes|c.No)>>i%2 == 0 {
			free |= 1 << i
		}
	}
	if vars <= 3 {
		for set := range 1 << vars {
			if set&^free == 0 {
				list = append(list, c.Yes|set)
			}
		}
		return list
	}
	list = append(list, c.Yes|free)
	for range 8 {
		list = append(list, c.Yes|free&r.IntN(1<<vars))
	}
	return list
}

// asValue returns the truth value of a bool.
func asValue(b bool) int {
	if b {
		return yes
	}
	return no
}

// A value that is not unknown is that of layer 8 for every set that contains Yes and no event of No; with all events
// known every value is.
func TestValuesAreRight(t *testing.T) {
	r := rand.New(rand.NewPCG(9, 1))
	for _, f := range someFormulas() {
		for _, events := range someValues(f.Vars) {
			c := cubeOf(events)
			values, err := ternary.Values(f, c)
			if err != nil {
				t.Fatal(err)
			}
			if slices.Contains(values, unknown) && !slices.Contains(events, unknown) {
				t.Errorf("Values(%v, %v) = %v, though all events are known", f, c, values)
			}
			for _, failed := range completions(r, f.Vars, c) {
				want, err := formula.Values(f, failed)
				if err != nil {
					t.Fatal(err)
				}
				for i, v := range values {
					if v != unknown && v != asValue(want[i]) {
						t.Errorf("Values(%v, %v) = %v, but %d of node %d for %d", f, c, values, asValue(want[i]), i, failed)
					}
				}
			}
		}
	}
}

// With all events known, Top is decided, and has the value of layer 8.
func TestAllKnown(t *testing.T) {
	r := rand.New(rand.NewPCG(9, 2))
	for _, f := range someFormulas() {
		for _, failed := range completions(r, f.Vars, api.Cube{}) {
			c := api.Cube{Yes: failed, No: (1<<f.Vars - 1) &^ failed}
			want, _ := formula.Value(f, failed)
			value, err := ternary.Value(f, c)
			got(t, value, err, asValue(want), nil, "Value", f, c)
			decided, err := ternary.Decided(f, c)
			got(t, decided, err, true, nil, "Decided", f, c)
			next, err := ternary.Next(f, c)
			got(t, next, err, -1, nil, "Next", f, c)
		}
	}
}

// More knowledge never changes a value that is not unknown.
func TestKnowledgeGrows(t *testing.T) {
	for _, f := range someFormulas() {
		for _, events := range someValues(f.Vars) {
			before, err := ternary.Values(f, cubeOf(events))
			if err != nil {
				t.Fatal(err)
			}
			for i, v := range events {
				if v != unknown {
					continue
				}
				for _, known := range []int{no, yes} {
					events[i] = known
					after, err := ternary.Values(f, cubeOf(events))
					if err != nil {
						t.Fatal(err)
					}
					for j, v := range before {
						if v != unknown && after[j] != v {
							t.Errorf("%v: with %v the value of node %d becomes %d, not %d", f, events, j, after[j], v)
						}
					}
				}
				events[i] = unknown
			}
		}
	}
}

// unknownBelow returns the number of unknown events in the support.
func unknownBelow(support int, events []int) int {
	count := 0
	for i, v := range events {
		if v == unknown && support>>i%2 == 1 {
			count++
		}
	}
	return count
}

// splitting splits at Next until the cube is decided, which takes no more splits than there are unknown events in the
// support. It goes both ways, or at random one way only.
func splitting(t *testing.T, r *rand.Rand, f api.Formula, support int, events []int) {
	c := cubeOf(events)
	decided, err := ternary.Decided(f, c)
	if err != nil || decided {
		return
	}
	next, err := ternary.Next(f, c)
	if err != nil || next < 0 || next >= f.Vars || events[next] != unknown || support>>next%2 == 0 {
		t.Errorf("Next(%v, %v) = %v, %v", f, c, next, err)
		return
	}
	for v := range 2 {
		if f.Vars > 8 && v != r.IntN(2) {
			continue
		}
		less := slices.Clone(events)
		less[next] = v
		if unknownBelow(support, less) != unknownBelow(support, events)-1 {
			t.Errorf("%v: %v is not an unknown event of the support", f, next)
		}
		splitting(t, r, f, support, less)
	}
}

func TestSplitting(t *testing.T) {
	r := rand.New(rand.NewPCG(9, 3))
	for _, f := range someFormulas() {
		support, err := formula.Support(f)
		if err != nil {
			t.Fatal(err)
		}
		splitting(t, r, f, support, slices.Repeat([]int{unknown}, f.Vars))
		for _, events := range someValues(f.Vars) {
			if f.Vars <= 3 || unknownBelow(support, events) < 5 {
				splitting(t, r, f, support, events)
			}
			// Where no event of the support is unknown, nothing is left to split.
			if decided, err := ternary.Decided(f, cubeOf(events)); unknownBelow(support, events) == 0 && (!decided || err != nil) {
				t.Errorf("Decided(%v, %v) = %v, %v", f, events, decided, err)
			}
		}
	}
}
