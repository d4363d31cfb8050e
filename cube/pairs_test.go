package cube_test

import (
	"math/big"
	"math/rand/v2"
	"testing"

	"faultline/api"
	"faultline/cube"
)

func TestCheck(t *testing.T) {
	seen := map[error]int{}
	for _, c := range rawCubes() {
		err := cube.Check(c)
		seen[err]++
		if err != fault(c) {
			t.Errorf("Check(%v) = %v, want %v", c, err, fault(c))
		}
	}
	for _, err := range []error{nil, api.ErrRange, api.ErrTwice} {
		if seen[err] == 0 {
			t.Errorf("no cube has the error %v", err)
		}
	}
	for i := range 24 {
		for j := range 24 {
			c := api.Cube{Yes: 1 << i, No: 1 << j}
			if err := cube.Check(c); err != fault(c) {
				t.Errorf("Check(%v) = %v, want %v", c, err, fault(c))
			}
		}
	}
}

func TestGivenErrorsOfCheck(t *testing.T) {
	for _, c := range []struct {
		c    api.Cube
		want error
	}{
		{api.Cube{}, nil},
		{api.Cube{Yes: all}, nil},
		{api.Cube{No: all}, nil},
		{api.Cube{Yes: 5, No: all - 5}, nil},
		{api.Cube{Yes: all + 1}, api.ErrRange},
		{api.Cube{No: all + 1}, api.ErrRange},
		{api.Cube{Yes: -1}, api.ErrRange},
		{api.Cube{No: -1}, api.ErrRange},
		{api.Cube{Yes: 1, No: -1}, api.ErrRange},
		{api.Cube{Yes: -1, No: 1}, api.ErrRange},
		{api.Cube{Yes: all + 1, No: all + 1}, api.ErrRange},
		{api.Cube{Yes: all + 2, No: 1}, api.ErrRange},
		{api.Cube{Yes: 1, No: 1}, api.ErrTwice},
		{api.Cube{Yes: 1 << 23, No: all}, api.ErrTwice},
	} {
		if err := cube.Check(c.c); err != c.want {
			t.Errorf("Check(%v) = %v, want %v", c.c, err, c.want)
		}
	}
}

func TestHolds(t *testing.T) {
	for _, events := range [][]int{{0, 1, 2}, {23, 3, 17}} {
		for _, c := range cubesOf(events...) {
			for _, state := range statesOf(0, 1, 2, 3, 17, 23) {
				is, err := cube.Holds(c, state)
				got(t, is, err, write(c).holds(state), nil, "Holds", c, state)
			}
		}
	}
	r := rand.New(rand.NewPCG(12, 11))
	for range 3000 {
		c := randomCube(r, upTo(24), 30)
		for _, state := range []int{c.Yes, all - c.No, r.IntN(all+1)&^c.No | c.Yes, c.Yes ^ 1<<r.IntN(24), r.IntN(all + 1)} {
			is, err := cube.Holds(c, state)
			got(t, is, err, write(c).holds(state), nil, "Holds", c, state)
		}
	}
}

// A state that is no mask is refused, but behind a cube that is not valid.
func TestErrorsOfHolds(t *testing.T) {
	for _, state := range oddInts() {
		for _, c := range []api.Cube{{}, {Yes: 1}, {No: all}, {Yes: all}} {
			is, err := cube.Holds(c, state)
			got(t, is, err, false, api.ErrRange, "Holds", c, state)
		}
		is, err := cube.Holds(api.Cube{Yes: 1, No: 1}, state)
		got(t, is, err, false, api.ErrTwice, "Holds", state)
	}
	for _, state := range []int{0, all} {
		is, err := cube.Holds(api.Cube{}, state)
		got(t, is, err, true, nil, "Holds", state)
	}
}

// TestPairs compares the functions of two cubes with what the patterns say.
func TestPairs(t *testing.T) {
	for _, c := range somePairs() {
		p, q := write(c.a), write(c.b)
		is, err := cube.Implies(c.a, c.b)
		got(t, is, err, p.implies(q), nil, "Implies", p, q)

		var want found
		if len(p.clashes(q)) == 0 {
			want = found{read(p.joined(q)), true}
		}
		common, is, err := cube.Meet(c.a, c.b)
		got(t, found{common, is}, err, want, nil, "Meet", p, q)

		want = found{}
		if events := p.clashes(q); len(events) == 1 {
			want = found{read(p.joined(q).with(events[0], '-')), true}
		}
		common, is, err = cube.Consensus(c.a, c.b)
		got(t, found{common, is}, err, want, nil, "Consensus", p, q)

		pieces, err := cube.Minus(c.a, c.b)
		listed(t, pieces, err, list(p.minus(q)...), nil, "Minus", p, q)
	}
}

// Examples, cubes without literals and cubes with all events.
func TestMinusOfGivenCubes(t *testing.T) {
	none, every := api.Cube{}, api.Cube{Yes: 5, No: all - 5}
	for _, c := range []struct {
		a, b api.Cube
		want []api.Cube
	}{
		{read("1"), read("-11"), list("10", "110")},
		{none, none, nil},
		{read("1"), none, nil},
		{none, read("1"), list("0")},
		{none, read("0"), list("1")},
		{read("1"), read("1"), nil},
		{read("10-1"), read("-0"), nil},
		{read("1"), read("0"), list("1")},
		{read("101"), read("11"), list("101")},
		{none, read("0101"), list("1", "00", "011", "0100")},
		{read("-1"), read("0-10"), list("11", "010", "0111")},
		{every, none, nil},
		{every, every, nil},
		{every, read("0"), []api.Cube{every}},
		{none, read("-----------------------1"), list("-----------------------0")},
	} {
		pieces, err := cube.Minus(c.a, c.b)
		listed(t, pieces, err, c.want, nil, "Minus", c.a, c.b)
	}
	pieces, err := cube.Minus(none, every)
	if len(pieces) != 24 || err != nil {
		t.Errorf("Minus of a cube with all events has %d cubes, %v", len(pieces), err)
	}
}

func TestConsensusOfGivenCubes(t *testing.T) {
	for _, c := range []struct {
		a, b api.Cube
		want found
	}{
		{read("11"), read("0-1"), found{read("-11"), true}},
		{read("0-1"), read("11"), found{read("-11"), true}},
		{read("1"), read("0"), found{api.Cube{}, true}},
		{read("1"), read("1"), found{}},
		{api.Cube{}, api.Cube{}, found{}},
		{read("1"), read("-0"), found{}},
		{read("11"), read("00"), found{}},
		{read("10"), read("01"), found{}},
		{read("100"), read("110"), found{read("1-0"), true}},
	} {
		common, is, err := cube.Consensus(c.a, c.b)
		got(t, found{common, is}, err, c.want, nil, "Consensus", c.a, c.b)
	}
}

// product returns what Weight must return.
func product(p pattern, chances []*big.Rat) *big.Rat {
	result := big.NewRat(1, 1)
	for i, chance := range chances {
		switch p[i] {
		case '1':
			result.Mul(result, chance)
		case '0':
			result.Mul(result, new(big.Rat).Sub(big.NewRat(1, 1), chance))
		}
	}
	return result
}

func TestWeight(t *testing.T) {
	r := rand.New(rand.NewPCG(12, 12))
	for range 2000 {
		count := 1 + r.IntN(24)
		c, chances := randomCube(r, upTo(count), r.IntN(30)), probabilities(r, count)
		weight, err := cube.Weight(c, fractions(chances))
		weighed(t, weight, err, product(write(c), chances), nil, c, chances)
	}
}

// The numbers 0 and 1, no probabilities at all, and events without literals.
func TestWeightOfGivenCubes(t *testing.T) {
	chances := []*big.Rat{big.NewRat(1, 2), big.NewRat(1, 3), new(big.Rat), big.NewRat(1, 1), big.NewRat(3, 4)}
	for _, c := range []struct {
		c        api.Cube
		num, den int64
	}{
		{api.Cube{}, 1, 1},
		{read("1"), 1, 2},
		{read("10"), 1, 3},
		{read("11"), 1, 6},
		{read("-1--1"), 1, 4},
		{read("00--0"), 1, 12},
		{read("--1"), 0, 1},
		{read("--0"), 1, 1},
		{read("---1"), 1, 1},
		{read("---0"), 0, 1},
		{read("1101"), 1, 6},
		{read("1100"), 0, 1},
	} {
		weight, err := cube.Weight(c.c, fractions(chances))
		weighed(t, weight, err, big.NewRat(c.num, c.den), nil, c.c)
	}
	weight, err := cube.Weight(api.Cube{}, nil)
	weighed(t, weight, err, big.NewRat(1, 1), nil)
	halves := make([]*big.Rat, 24)
	for i := range halves {
		halves[i] = big.NewRat(1, 2)
	}
	for _, c := range []api.Cube{{Yes: all}, {No: all}, {Yes: 7, No: all - 7}} {
		weight, err := cube.Weight(c, fractions(halves))
		weighed(t, weight, err, big.NewRat(1, all+1), nil, c)
	}
}

// TestErrorsOfWeight looks for each error where the next ones would be found, too.
func TestErrorsOfWeight(t *testing.T) {
	half := fraction(big.NewRat(1, 2))
	long := make([]api.Rat, 25)
	bad := []api.Rat{
		fraction(big.NewRat(-1, 2)), fraction(big.NewRat(3, 2)), fraction(big.NewRat(2, 1)), fraction(big.NewRat(-1, 1)),
		{Neg: true}, {Num: []uint32{1}}, {Den: []uint32{1}}, {Num: []uint32{2}, Den: []uint32{4}},
		{Num: []uint32{1}, Den: []uint32{2, 0}}, {Num: []uint32{0}, Den: []uint32{1}}, {Neg: true, Num: []uint32{1}, Den: []uint32{2}},
	}
	twice, last := api.Cube{Yes: 1, No: 1}, api.Cube{Yes: 1 << 23}
	type errorCase struct {
		c    api.Cube
		p    []api.Rat
		want error
	}
	cases := []errorCase{
		{twice, long, api.ErrTwice},
		{twice, bad, api.ErrTwice},
		{api.Cube{Yes: -1}, nil, api.ErrRange},
		{api.Cube{}, long, api.ErrLarge},
		{last, append([]api.Rat{bad[0]}, long...), api.ErrLarge},
		{api.Cube{}, append(long[:24:24], bad[0]), api.ErrLarge},
		{api.Cube{Yes: 1}, nil, api.ErrIndex},
		{api.Cube{No: 1}, nil, api.ErrIndex},
		{api.Cube{Yes: 2}, []api.Rat{half}, api.ErrIndex},
		{api.Cube{No: 2}, []api.Rat{half}, api.ErrIndex},
		{api.Cube{Yes: 1, No: 2}, []api.Rat{half}, api.ErrIndex},
		{last, long[:23], api.ErrIndex},
		{api.Cube{No: all}, long[:23], api.ErrIndex},
	}
	for _, a := range bad {
		cases = append(cases,
			errorCase{api.Cube{}, []api.Rat{a}, api.ErrRange},
			errorCase{api.Cube{Yes: 1}, []api.Rat{half, a}, api.ErrRange},
			errorCase{last, []api.Rat{half, half, a, half}, api.ErrRange},
			errorCase{api.Cube{}, append(long[:23:23], a), api.ErrRange},
		)
	}
	for _, c := range cases {
		weight, err := cube.Weight(c.c, c.p)
		weighed(t, weight, err, new(big.Rat), c.want, c.c, c.p)
	}
	weight, err := cube.Weight(api.Cube{No: all}, long[:24])
	weighed(t, weight, err, big.NewRat(1, 1), nil, "all events")
}
