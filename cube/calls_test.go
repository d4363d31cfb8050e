package cube_test

import (
	"fmt"
	"math/big"
	"slices"
	"testing"

	"faultline/api"
	"faultline/cube"
)

// call is a function of so many cubes, or of a list of them, with its results besides the error as a text.
type call struct {
	name  string
	cubes int
	f     func(l []api.Cube) (string, error)
}

// aList is the number of cubes of a function that takes a list.
const aList = -1

// calls returns all functions. Arguments besides the cubes are valid, or have every error that the chapter names.
func calls() []call {
	list := []call{
		{"Check", 1, func(l []api.Cube) (string, error) { return "", cube.Check(l[0]) }},
		{"Implies", 2, func(l []api.Cube) (string, error) { return text1(cube.Implies(l[0], l[1])) }},
		{"Meet", 2, func(l []api.Cube) (string, error) { return text2(cube.Meet(l[0], l[1])) }},
		{"Minus", 2, func(l []api.Cube) (string, error) { return text1(cube.Minus(l[0], l[1])) }},
		{"Consensus", 2, func(l []api.Cube) (string, error) { return text2(cube.Consensus(l[0], l[1])) }},
		{"Disjoint", aList, func(l []api.Cube) (string, error) { return text1(cube.Disjoint(l)) }},
		{"Cover", aList, func(l []api.Cube) (string, error) { return text1(cube.Cover(l)) }},
		{"Absorb", aList, func(l []api.Cube) (string, error) { return text1(cube.Absorb(l)) }},
		{"Covers of a cube", 1, func(l []api.Cube) (string, error) { return text1(cube.Covers(twins(3), l[0])) }},
	}
	for _, c := range []api.Cube{{}, {Yes: 3}, {Yes: -1}, {Yes: 1, No: 1}} {
		list = append(list, call{"Covers", aList, func(l []api.Cube) (string, error) { return text1(cube.Covers(l, c)) }})
	}
	for _, state := range []int{0, all, -1, all + 1} {
		list = append(list, call{"Holds", 1, func(l []api.Cube) (string, error) { return text1(cube.Holds(l[0], state)) }})
	}
	for _, vars := range []int{24, 0, -1, 25} {
		list = append(list, call{"Count", aList, func(l []api.Cube) (string, error) { return text1(cube.Count(l, vars)) }})
	}
	for _, p := range [][]api.Rat{nil, make([]api.Rat, 24), make([]api.Rat, 25), {{Neg: true}}} {
		list = append(list, call{"Weight", 1, func(l []api.Cube) (string, error) { return text1(cube.Weight(l[0], p)) }})
	}
	return list
}

// text1 returns a result, and text2 two of them, as a text, which is empty for zero values.
func text1[T any](result T, err error) (string, error) {
	text := fmt.Sprint(result)
	if slices.Contains([]string{"false", "0", "[]", "{false [] []}"}, text) {
		text = ""
	}
	return text, err
}

func text2(c api.Cube, is bool, err error) (string, error) {
	text := fmt.Sprint(c, is)
	if text == "{0 0} false" {
		text = ""
	}
	return text, err
}

// firstFault returns the error of the cubes that a function must return first, if there is one.
func firstFault(cubes int, l []api.Cube) error {
	if cubes == aList && len(l) > 1024 {
		return api.ErrLarge
	}
	for _, c := range l {
		if err := fault(c); err != nil {
			return err
		}
	}
	return nil
}

// refused reports a function that does not return the error of its cubes first, and nothing else with it.
func refused(t *testing.T, call call, l ...api.Cube) {
	t.Helper()
	want := firstFault(call.cubes, l)
	if text, err := call.f(l); want != nil && (text != "" || err != want) {
		t.Errorf("%s(%v) = %s, %v, want %v", call.name, l, text, err, want)
	}
}

// Every function refuses cubes that are not valid, in the order of the arguments, whatever comes after them.
func TestErrorsOfCubes(t *testing.T) {
	for _, call := range calls() {
		for _, c := range rawCubes() {
			switch call.cubes {
			case 1:
				refused(t, call, c)
			case 2:
				for _, other := range []api.Cube{{}, {Yes: 1, No: 2}, {Yes: 1, No: 1}, {Yes: -1}} {
					refused(t, call, c, other)
					refused(t, call, other, c)
				}
			case aList:
				refused(t, call, c)
				refused(t, call, c, c)
				refused(t, call, api.Cube{}, c, api.Cube{Yes: 1, No: 1})
				refused(t, call, api.Cube{Yes: 5, No: 1}, api.Cube{}, c, api.Cube{Yes: -1})
			}
		}
	}
}

// Every function of a list refuses too many cubes, before it looks at them; it takes as many as are permitted.
func TestLongLists(t *testing.T) {
	for _, call := range calls() {
		if call.cubes != aList {
			continue
		}
		for _, l := range [][]api.Cube{
			make([]api.Cube, 1025),
			make([]api.Cube, 5000),
			append(slices.Repeat([]api.Cube{{Yes: 1}}, 1024), api.Cube{Yes: -1}),
			append([]api.Cube{{Yes: 1, No: 1}}, make([]api.Cube, 1024)...),
			append(make([]api.Cube, 1023), api.Cube{Yes: 1, No: 1}),
			append(make([]api.Cube, 1023), api.Cube{No: all + 1}),
			append([]api.Cube{{Yes: 1, No: 1}}, make([]api.Cube, 1023)...),
		} {
			refused(t, call, l...)
		}
	}
	l := slices.Repeat([]api.Cube{{Yes: 1}}, 1024)
	is, err := cube.Disjoint(l)
	got(t, is, err, false, nil, "Disjoint", "1024 cubes")
	is, err = cube.Covers(l, api.Cube{Yes: 3})
	got(t, is, err, true, nil, "Covers", "1024 cubes")
	n, err := cube.Count(l, 2)
	got(t, n, err, 2, nil, "Count", "1024 cubes")
	cubes, err := cube.Cover(l)
	listed(t, cubes, err, l[:1], nil, "Cover", "1024 cubes")
	cubes, err = cube.Absorb(l)
	listed(t, cubes, err, l[:1], nil, "Absorb", "1024 cubes")
}

// Covers returns the errors of the list before that of the cube.
func TestErrorsOfCovers(t *testing.T) {
	long, bad, twice := make([]api.Cube, 1025), []api.Cube{{}, {Yes: -1}}, api.Cube{Yes: 1, No: 1}
	for _, c := range []struct {
		l    []api.Cube
		c    api.Cube
		want error
	}{
		{long, twice, api.ErrLarge},
		{bad, twice, api.ErrRange},
		{[]api.Cube{twice}, bad[1], api.ErrTwice},
		{nil, twice, api.ErrTwice},
		{nil, bad[1], api.ErrRange},
		{bad[:1], twice, api.ErrTwice},
		{long[1:], bad[1], api.ErrRange},
	} {
		is, err := cube.Covers(c.l, c.c)
		got(t, is, err, false, c.want, "Covers", len(c.l), c.c)
	}
}

// No function changes the list that it is passed, or the memory behind it.
func TestArgumentsStay(t *testing.T) {
	behind := api.Cube{Yes: -7, No: -8}
	for _, l := range append(wideLists(31, 100), twins(10), parity(upTo(8)...), steep(15, true), []api.Cube{{Yes: 1, No: 1}, {}}) {
		for _, call := range calls() {
			passed := append(slices.Clone(l), behind)
			if call.cubes == aList {
				call.f(passed[:len(l)])
			} else if len(l) >= 2 {
				call.f(passed[:2])
			}
			if !slices.Equal(passed, append(slices.Clone(l), behind)) {
				t.Errorf("%s(%v) has changed its argument: %v", call.name, l, passed)
			}
		}
	}
}

// Two results share no memory with each other, or with the arguments.
func TestResultsAreNew(t *testing.T) {
	for _, l := range append(wideLists(32, 200), twins(1), twins(10), parity(upTo(8)...), list("1", "-1"), list("1", "0")) {
		for name, f := range map[string]func() ([]api.Cube, error){
			"Cover":  func() ([]api.Cube, error) { return cube.Cover(l) },
			"Absorb": func() ([]api.Cube, error) { return cube.Absorb(l) },
			"Minus":  func() ([]api.Cube, error) { return cube.Minus(api.Cube{Yes: 1}, api.Cube{No: 6}) },
		} {
			before := slices.Clone(l)
			first, _ := f()
			second, fault := f()
			want := slices.Clone(second)
			for i := range first[:cap(first)] {
				first[:cap(first)][i] = api.Cube{Yes: -7, No: -8}
			}
			listed(t, second, fault, want, fault, name, l)
			listed(t, l, nil, before, nil, "argument of", name)
		}
	}
}

// Weights share no memory with probabilities, which stay as they are.
func TestWeightsAreNew(t *testing.T) {
	for _, c := range []api.Cube{{}, {Yes: 1}, {No: 1}, {Yes: 2}, {No: 4}, {Yes: 3}, {No: 7}, {Yes: 8, No: 1}} {
		chances := []*big.Rat{big.NewRat(1, 2), big.NewRat(1, 1), new(big.Rat), big.NewRat(3, 1<<40)}
		p := fractions(chances)
		for range 2 {
			weight, err := cube.Weight(c, p)
			weighed(t, weight, err, product(write(c), chances), nil, c)
			for _, words := range [][]uint32{weight.Num[:cap(weight.Num)], weight.Den[:cap(weight.Den)]} {
				for i := range words {
					words[i] = 77
				}
			}
			for i, a := range p {
				if !same(a, fraction(chances[i])) {
					t.Errorf("Weight(%v) has changed the probability %d: %v", c, i, a)
				}
			}
		}
	}
}
