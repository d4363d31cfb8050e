package cube_test

import (
	"math/rand/v2"
	"slices"
	"testing"

	"faultline/api"
	"faultline/cube"
	"faultline/rational"
)

// near returns states in a cube, others that are not, and any.
func near(r *rand.Rand, c api.Cube) []int {
	list := []int{c.Yes, all - c.No}
	for range 6 {
		s := r.IntN(all+1)&^c.No | c.Yes
		list = append(list, s, s^1<<r.IntN(24), s&r.IntN(all+1))
	}
	return list
}

// TestMinusIsExact checks promise P12.2 for Minus: each state that is in a and not in b is in one of the cubes, no
// other one is in any.
func TestMinusIsExact(t *testing.T) {
	r := rand.New(rand.NewPCG(12, 41))
	for _, c := range somePairs() {
		pieces, err := cube.Minus(c.a, c.b)
		if err != nil || !disjoint(pieces) {
			t.Errorf("Minus(%v, %v) = %v, %v", c.a, c.b, pieces, err)
		}
		size := common([]api.Cube{c.a}) - common([]api.Cube{c.a, c.b})
		for _, piece := range pieces {
			size -= common([]api.Cube{piece})
		}
		if size != 0 {
			t.Errorf("Minus(%v, %v): %d states are missing", c.a, c.b, size)
		}
		for _, s := range slices.Concat(near(r, c.a), near(r, c.b)) {
			if inAny(pieces, s) != (write(c.a).holds(s) && !write(c.b).holds(s)) {
				t.Errorf("Minus(%v, %v) is wrong for the state %d", c.a, c.b, s)
			}
		}
	}
}

// sameStates reports two lists that do not have the same states, as far as it looks.
func sameStates(t *testing.T, r *rand.Rand, call string, l, result []api.Cube) {
	t.Helper()
	for _, c := range append(slices.Concat(l, result), api.Cube{}) {
		for _, s := range near(r, c)[:8] {
			if inAny(l, s) != inAny(result, s) {
				t.Errorf("%s(%v) = %v is wrong for the state %d", call, l, result, s)
			}
		}
	}
	for i := range l {
		first, err := cube.Covers(result, l[i])
		got(t, first, err, true, nil, "Covers", call, l)
	}
	for i := range result {
		second, err := cube.Covers(l, result[i])
		got(t, second, err, true, nil, "Covers", call, l)
	}
}

// TestListsKeepTheirStates checks promise P12.2 for Cover and P12.3 for Absorb.
func TestListsKeepTheirStates(t *testing.T) {
	r := rand.New(rand.NewPCG(12, 42))
	lists := append(wideLists(43, 100), twins(5), steep(2, true))
	for i, p := range someProblems() {
		if i%5 == 0 {
			lists = append(lists, p.l)
		}
	}
	for _, l := range lists {
		cubes, err := cube.Absorb(l)
		if err != nil {
			t.Errorf("Absorb(%v): %v", l, err)
		}
		sameStates(t, r, "Absorb", l, cubes)
		cubes, err = cube.Cover(l)
		if err == api.ErrLarge {
			continue
		}
		if err != nil || !disjoint(cubes) {
			t.Errorf("Cover(%v) = %v, %v", l, cubes, err)
		}
		if len(cubes) < 100 {
			sameStates(t, r, "Cover", l, cubes)
		}
		// Disjoint cubes have as many states as all of them together.
		count, err := cube.Count(l, 24)
		for _, c := range cubes {
			count -= common([]api.Cube{c})
		}
		got(t, count, err, 0, nil, "Cover: the states that are missing", l)
	}
}

// TestConsensusIsInOneOfTheTwo checks promise P12.3 for Consensus.
func TestConsensusIsInOneOfTheTwo(t *testing.T) {
	r := rand.New(rand.NewPCG(12, 44))
	count := 0
	for _, c := range somePairs() {
		between, is, err := cube.Consensus(c.a, c.b)
		if err != nil {
			t.Errorf("Consensus(%v, %v): %v", c.a, c.b, err)
		}
		if !is {
			continue
		}
		count++
		covered, err := cube.Covers([]api.Cube{c.a, c.b}, between)
		got(t, covered, err, true, nil, "Covers", c.a, c.b, between)
		for _, s := range near(r, between) {
			if write(between).holds(s) && !inAny([]api.Cube{c.a, c.b}, s) {
				t.Errorf("Consensus(%v, %v) = %v, which is wrong for the state %d", c.a, c.b, between, s)
			}
		}
	}
	if count < 1000 {
		t.Errorf("only %d consensus were looked at", count)
	}
}

// sum returns the sum of the weights of cubes.
func sum(t *testing.T, l []api.Cube, p []api.Rat) api.Rat {
	t.Helper()
	total := rational.Of(0)
	for _, c := range l {
		weight, err := cube.Weight(c, p)
		if err != nil {
			t.Errorf("Weight(%v, %v): %v", c, p, err)
		}
		total = rational.Add(total, weight)
	}
	return total
}

// TestWeightsOfParts checks promise P12.4: an event splits a cube into two with the same weight together.
func TestWeightsOfParts(t *testing.T) {
	r := rand.New(rand.NewPCG(12, 45))
	for range 300 {
		count := 1 + r.IntN(24)
		c, p := randomCube(r, upTo(count), r.IntN(24)), fractions(probabilities(r, count))
		for event := range count {
			if write(c)[event] != '-' {
				continue
			}
			parts := list(write(c).with(event, '1'), write(c).with(event, '0'))
			if whole := sum(t, []api.Cube{c}, p); !same(sum(t, parts, p), whole) {
				t.Errorf("the parts of %v for the event %d do not weigh %v with %v", c, event, whole, p)
			}
		}
	}
}

// TestWeightsOfEverything checks promise P12.4: disjoint cubes that cover everything weigh 1 together.
func TestWeightsOfEverything(t *testing.T) {
	r := rand.New(rand.NewPCG(12, 46))
	for _, size := range []int{1, 2, 5, 20, 100} {
		for range 5 {
			l, p := leaves(r, api.Cube{}, size), fractions(probabilities(r, 24))
			if total := sum(t, l, p); !same(total, rational.Of(1)) {
				t.Errorf("%v weigh %v with %v", l, total, p)
			}
		}
	}
	for _, l := range wideLists(47, 60) {
		cubes, err := cube.Cover(append(l, api.Cube{}))
		if err == api.ErrLarge || len(cubes) > 200 {
			continue
		}
		p := fractions(probabilities(r, 24))
		if total := sum(t, cubes, p); err != nil || !same(total, rational.Of(1)) {
			t.Errorf("the cover %v, %v, weighs %v with %v", cubes, err, total, p)
		}
	}
}

// With all probabilities 1/2 the weights of a cover count the states.
func TestWeightsOfCovers(t *testing.T) {
	half, err := rational.Make(1, 2)
	if err != nil {
		t.Fatal(err)
	}
	p := slices.Repeat([]api.Rat{half}, 24)
	for _, l := range append(wideLists(48, 60), twins(6)) {
		cubes, err := cube.Cover(l)
		if err == api.ErrLarge {
			continue
		}
		count, fault := cube.Count(l, 24)
		want, wrong := rational.Make(count, all+1)
		if err != nil || fault != nil || wrong != nil || !same(sum(t, cubes, p), want) {
			t.Errorf("the cover of %v does not weigh %v: %v, %v, %v", l, want, err, fault, wrong)
		}
	}
}
