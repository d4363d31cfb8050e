package cube_test

import (
	"math/rand/v2"
	"slices"
	"testing"

	"faultline/api"
	"faultline/cube"
)

// disjoint reports whether no two cubes have a common state.
func disjoint(l []api.Cube) bool {
	for i := range l {
		for j := range l {
			if i != j && len(write(l[i]).clashes(write(l[j]))) == 0 {
				return false
			}
		}
	}
	return true
}

// cover returns what Cover must return.
func cover(l []api.Cube) ([]api.Cube, error) {
	var result []api.Cube
	for i, c := range l {
		pieces := []pattern{write(c)}
		for _, before := range l[:i] {
			var replaced []pattern
			for _, p := range pieces {
				replaced = append(replaced, p.minus(write(before))...)
			}
			pieces = replaced
			if len(pieces) > 1024 {
				return nil, api.ErrLarge
			}
		}
		result = append(result, list(pieces...)...)
	}
	if len(result) > 1024 {
		return nil, api.ErrLarge
	}
	return result, nil
}

// absorb returns what Absorb must return.
func absorb(l []api.Cube) []api.Cube {
	var result []api.Cube
	for _, c := range l {
		smaller := func(other api.Cube) bool { return other != c && write(c).implies(write(other)) }
		if !slices.ContainsFunc(l, smaller) && !slices.Contains(result, c) {
			result = append(result, c)
		}
	}
	slices.SortFunc(result, order)
	return result
}

// TestLists compares Disjoint, Cover and Absorb with what the patterns say.
func TestLists(t *testing.T) {
	lists := wideLists(21, 400)
	for _, p := range someProblems() {
		lists = append(lists, p.l)
	}
	for _, l := range lists {
		is, err := cube.Disjoint(l)
		got(t, is, err, disjoint(l), nil, "Disjoint", l)

		want, fault := cover(l)
		cubes, err := cube.Cover(l)
		listed(t, cubes, err, want, fault, "Cover", l)

		cubes, err = cube.Absorb(l)
		listed(t, cubes, err, absorb(l), nil, "Absorb", l)
	}
}

// TestStates compares Covers and Count with all states of the events.
func TestStates(t *testing.T) {
	r := rand.New(rand.NewPCG(12, 22))
	for _, p := range someProblems() {
		states := statesOf(p.events...)
		count := 0
		for _, s := range states {
			if inAny(p.l, s) {
				count++
			}
		}
		for _, vars := range []int{24, slices.Max(append(p.events, -1)) + 1} {
			n, err := cube.Count(p.l, vars)
			got(t, n, err, count*power(vars-len(p.events)), nil, "Count", p.l, vars)
		}
		cubes := []api.Cube{{}}
		for range 6 {
			if len(p.events) > 0 {
				cubes = append(cubes, randomCube(r, p.events, len(p.events)), randomCube(r, upTo(24), 8))
			}
		}
		for _, c := range append(cubes, p.l...) {
			is, err := cube.Covers(p.l, c)
			got(t, is, err, !slices.ContainsFunc(states, func(s int) bool {
				// The events that no cube of the list has do not matter, so that they are as c needs them.
				for i := range 24 {
					if !slices.Contains(p.events, i) && c.Yes>>i%2 == 1 {
						s += 1 << i
					}
				}
				return write(c).holds(s) && !inAny(p.l, s)
			}), nil, "Covers", p.l, c)
		}
	}
}

// common returns the number of states of 24 events that are in all cubes.
func common(l []api.Cube) int {
	p := write(api.Cube{})
	for _, c := range l {
		if len(p.clashes(write(c))) > 0 {
			return 0
		}
		p = p.joined(write(c))
	}
	return power(24 - p.size())
}

// TestCountOfAllEvents counts the states of wide cubes by inclusion and exclusion.
func TestCountOfAllEvents(t *testing.T) {
	for _, l := range wideLists(23, 300) {
		want := 0
		for chosen := 1; chosen < power(len(l)); chosen++ {
			var some []api.Cube
			for i, c := range l {
				if chosen>>i%2 == 1 {
					some = append(some, c)
				}
			}
			if len(some)%2 == 1 {
				want += common(some)
			} else {
				want -= common(some)
			}
		}
		n, err := cube.Count(l, 24)
		got(t, n, err, want, nil, "Count", l)
	}
}

// Parts of everything, as many as a list may have, cover what they are parts of; without one of them they do not.
func TestPartsOfEverything(t *testing.T) {
	r := rand.New(rand.NewPCG(12, 24))
	for _, size := range []int{1, 2, 3, 10, 100, 1000, 1024} {
		for range 5 {
			whole := randomCube(r, upTo(24), 6)
			parts := leaves(r, whole, size)
			is, err := cube.Disjoint(parts)
			got(t, is, err, true, nil, "Disjoint", size)
			is, err = cube.Covers(parts, whole)
			got(t, is, err, true, nil, "Covers", size)
			n, err := cube.Count(parts, 24)
			got(t, n, err, common([]api.Cube{whole}), nil, "Count", size)

			lost := parts[0]
			is, err = cube.Covers(parts[1:], whole)
			got(t, is, err, false, nil, "Covers without", lost)
			is, err = cube.Covers(parts[1:], lost)
			got(t, is, err, false, nil, "Covers without", lost)
			if size > 1 {
				is, err = cube.Covers(parts[1:], parts[1])
				got(t, is, err, true, nil, "Covers without", lost)
			}
			n, err = cube.Count(parts[1:], 24)
			got(t, n, err, common([]api.Cube{whole})-common([]api.Cube{lost}), nil, "Count without", lost)
		}
	}
}

// An odd number of events: no two of these cubes can be joined, and what they do not cover lies in single states.
func TestParities(t *testing.T) {
	odd := parity(upTo(11)...)
	even := append(parity(upTo(10)...), parity(upTo(10)...)...)
	for i := range even[:512] {
		even[i].Yes, even[i].No = even[i].Yes^1, even[i].No^1
	}
	two := append(parity(upTo(9)...), parity(9, 10, 11, 12, 13, 14, 15, 16, 17)...)
	for _, c := range []struct {
		name string
		l    []api.Cube
		want int
	}{
		{"11 events", odd, (all + 1) / 2},
		{"10 events, odd or even", even, all + 1},
		{"9 events and 9 others", two, (all + 1) / 4 * 3},
	} {
		n, err := cube.Count(c.l, 24)
		got(t, n, err, c.want, nil, "Count", c.name)
		is, err := cube.Covers(c.l, api.Cube{})
		got(t, is, err, c.want == all+1, nil, "Covers", c.name)
	}
}

// Examples, no cubes, and cubes without literals.
func TestGivenLists(t *testing.T) {
	none := api.Cube{}
	for _, c := range []struct {
		l, cover, absorb []api.Cube
		vars, count      int
		disjoint         bool
	}{
		{nil, nil, nil, 0, 0, true},
		{nil, nil, nil, 24, 0, true},
		{[]api.Cube{none}, []api.Cube{none}, []api.Cube{none}, 0, 1, true},
		{[]api.Cube{none}, []api.Cube{none}, []api.Cube{none}, 24, all + 1, true},
		{[]api.Cube{none, none}, []api.Cube{none}, []api.Cube{none}, 3, 8, false},
		{[]api.Cube{none, read("1")}, []api.Cube{none}, []api.Cube{none}, 1, 2, false},
		{[]api.Cube{read("1"), none}, list("1", "0"), []api.Cube{none}, 1, 2, false},
		{list("1", "-1"), list("1", "01"), list("1", "-1"), 2, 3, false},
		{list("-1", "1"), list("-1", "10"), list("1", "-1"), 2, 3, false},
		{list("1", "0"), list("1", "0"), list("0", "1"), 1, 2, true},
		{list("1", "1"), list("1"), list("1"), 1, 1, false},
		{list("11", "--1", "1", "--1"), list("11", "0-1", "101", "100"), list("1", "--1"), 3, 6, false},
		{list("-01", "10-", "1-1"), list("-01", "100", "111"), list("-01", "10-", "1-1"), 3, 4, false},
		{list("--00", "0-0", "00", "1-0", "-1-"), list("--00", "0-01", "001", "1-01", "-11"), list("-1", "00", "0-0", "--00", "1-0"), 4, 14, false},
	} {
		cubes, err := cube.Cover(c.l)
		listed(t, cubes, err, c.cover, nil, "Cover", c.l)
		cubes, err = cube.Absorb(c.l)
		slices.SortFunc(c.absorb, order)
		listed(t, cubes, err, c.absorb, nil, "Absorb", c.l)
		n, err := cube.Count(c.l, c.vars)
		got(t, n, err, c.count, nil, "Count", c.l, c.vars)
		is, err := cube.Disjoint(c.l)
		got(t, is, err, c.disjoint, nil, "Disjoint", c.l)
		is, err = cube.Covers(c.l, none)
		got(t, is, err, c.count == power(c.vars), nil, "Covers", c.l)
	}
}

// Absorb sorts by the number of literals, then Yes, then No.
func TestOrderOfAbsorb(t *testing.T) {
	want := []api.Cube{
		{No: 1 << 20}, {Yes: 1 << 21}, {Yes: 1 << 23},
		{No: 3}, {No: 5}, {No: 6}, {Yes: 1, No: 2}, {Yes: 1, No: 4}, {Yes: 2, No: 1}, {Yes: 2, No: 4}, {Yes: 3}, {Yes: 4, No: 8},
		{No: 56}, {Yes: 8, No: 48}, {Yes: 16, No: 96},
	}
	r := rand.New(rand.NewPCG(12, 25))
	for range 50 {
		l := append(slices.Clone(want), want[r.IntN(len(want))])
		r.Shuffle(len(l), func(i, j int) { l[i], l[j] = l[j], l[i] })
		cubes, err := cube.Absorb(l)
		listed(t, cubes, err, want, nil, "Absorb", l)
	}
}

// TestErrorsOfCount looks for each error where the next one would be found, too.
func TestErrorsOfCount(t *testing.T) {
	for _, vars := range []int{-1, 25, -24, 64, 1 << 32, oddInts()[9], oddInts()[11]} {
		for _, l := range [][]api.Cube{nil, {{}}, {{Yes: all}}} {
			n, err := cube.Count(l, vars)
			got(t, n, err, 0, api.ErrRange, "Count", l, vars)
		}
		n, err := cube.Count([]api.Cube{{Yes: 1, No: 1}}, vars)
		got(t, n, err, 0, api.ErrTwice, "Count", vars)
		n, err = cube.Count(make([]api.Cube, 1025), vars)
		got(t, n, err, 0, api.ErrLarge, "Count", vars)
	}
	for vars := range 25 {
		for event := range 24 {
			for _, c := range []api.Cube{{Yes: 1 << event}, {No: 1 << event}} {
				want, fault := power(vars)/2, error(nil)
				if event >= vars {
					want, fault = 0, api.ErrIndex
				}
				for _, l := range [][]api.Cube{{c}, {c, c}} {
					n, err := cube.Count(l, vars)
					got(t, n, err, want, fault, "Count", l, vars)
				}
				if event >= vars {
					n, err := cube.Count([]api.Cube{{}, c}, vars)
					got(t, n, err, 0, api.ErrIndex, "Count", c, vars)
				}
			}
		}
	}
}

// twins returns count pairs of failed events that have no event in common.
func twins(count int) []api.Cube {
	var l []api.Cube
	for i := range count {
		l = append(l, api.Cube{Yes: 3 << (2 * i)})
	}
	return l
}

// The cover of ten pairs has 1023 cubes; one more cube is permitted, two are not.
func TestCoverOfMostCubes(t *testing.T) {
	one, other := api.Cube{No: 1<<20 - 1, Yes: 1 << 20}, api.Cube{No: 1<<21 - 1, Yes: 1 << 21}
	for _, c := range []struct {
		name string
		l    []api.Cube
		size int
		want error
	}{
		{"10 pairs", twins(10), 1023, nil},
		{"10 pairs and a cube", append(twins(10), one), 1024, nil},
		{"10 pairs and two cubes", append(twins(10), one, other), 0, api.ErrLarge},
		{"10 pairs and a cube twice", append(twins(10), one, one), 1024, nil},
		{"11 pairs", twins(11), 0, api.ErrLarge},
		{"9 pairs and everything", append(twins(9), api.Cube{}), 1023, nil},
		{"10 pairs and everything", append(twins(10), api.Cube{}), 0, api.ErrLarge},
		{"the same cube", slices.Repeat(twins(1), 1024), 1, nil},
		{"odd numbers of 11 events", parity(upTo(11)...), 1024, nil},
	} {
		cubes, err := cube.Cover(c.l)
		want, fault := cover(c.l)
		listed(t, cubes, err, want, fault, "Cover", c.name)
		if len(cubes) != c.size || err != c.want {
			t.Errorf("Cover of %s has %d cubes, %v, want %d, %v", c.name, len(cubes), err, c.size, c.want)
		}
	}
}

// steep returns cubes that have together all states: 64 of them, which have each state of the low six events, the high
// events that have failed, and perhaps an event that works, then few others. The 64 cubes are taken away from everything
// one after the other, in pieces for each high event.
func steep(high int, works bool) []api.Cube {
	whole := write(api.Cube{})
	for i := range high {
		whole = whole.with(23-i, '1')
	}
	if works {
		whole = whole.with(0, '0')
	}
	var l []api.Cube
	for s := range 64 {
		p := whole
		for i := range 6 {
			p = p.with(1+i, "01"[s>>i%2])
		}
		l = append(l, read(p))
	}
	return append(append(l, list(write(api.Cube{}).minus(whole)...)...), api.Cube{})
}

// A cover of few cubes, for which a list that is made on the way has 1024, or more elements.
func TestCoverOnTheWay(t *testing.T) {
	for _, c := range []struct {
		high  int
		works bool
		size  int
		want  error
	}{
		{15, false, 64 + 15, nil},
		{15, true, 64 + 16, nil},
		{16, false, 64 + 16, nil},
		{16, true, 0, api.ErrLarge},
		{17, false, 0, api.ErrLarge},
	} {
		l := steep(c.high, c.works)
		cubes, err := cube.Cover(l)
		want, fault := cover(l)
		listed(t, cubes, err, want, fault, "Cover", c.high, c.works)
		if len(cubes) != c.size || err != c.want {
			t.Errorf("Cover for %d events has %d cubes, %v, want %d, %v", c.high, len(cubes), err, c.size, c.want)
		}
		cubes, err = cube.Cover(l[:len(l)-1])
		if !slices.Equal(cubes, l[:len(l)-1]) || err != nil {
			t.Errorf("Cover of %d disjoint cubes has %d cubes, %v", len(l)-1, len(cubes), err)
		}
	}
}
