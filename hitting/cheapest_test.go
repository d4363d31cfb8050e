package hitting_test

import (
	"cmp"
	"math"
	"math/rand/v2"
	"slices"
	"testing"

	"faultline/api"
	"faultline/hitting"
)

func TestMaxCost(t *testing.T) {
	if hitting.MaxCost != 1048576 {
		t.Errorf("MaxCost is %d", hitting.MaxCost)
	}
}

// sum returns the costs of the events of a set.
func sum(s int, cost []int) int {
	total := 0
	for i := range 24 {
		if s>>i&1 == 1 {
			total += cost[i]
		}
	}
	return total
}

// costs returns some costs of 24 events, many of which are equal: of the first kinds all of them.
func costs(r *rand.Rand, kind int) []int {
	list := make([]int, 24)
	greatest := []int{0, 1, 2, 9, 1000, hitting.MaxCost}[kind%6]
	for i := range list {
		list[i] = r.IntN(greatest + 1)
		if kind >= 6 {
			list[i] = greatest - list[i]/8
		}
	}
	return list
}

// cheapest returns the least of the sets by the sum of the costs, the number of events, and the mask.
func cheapest(l, cost []int) int {
	return slices.MinFunc(l, func(a, b int) int {
		return cmp.Or(cmp.Compare(sum(a, cost), sum(b, cost)), order(a, b))
	})
}

// TestLeastAndCheapest compares them with all sets of the events.
func TestLeastAndCheapest(t *testing.T) {
	r := rand.New(rand.NewPCG(7, 31))
	for _, p := range someProblems() {
		found := p.hittingSets()
		if len(found) == 0 {
			got, err := hitting.Least(p.l)
			numbered(t, got, err, 0, api.ErrInfeasible, "Least", p.l)
			set, total, err := hitting.Cheapest(p.l, costs(r, 4))
			priced(t, set, total, err, 0, 0, api.ErrInfeasible, p.l)
			continue
		}
		got, err := hitting.Least(p.l)
		numbered(t, got, err, slices.MinFunc(found, order), nil, "Least", p.l)
		for kind := range 12 {
			cost := costs(r, kind)
			want := cheapest(found, cost)
			set, total, err := hitting.Cheapest(p.l, cost)
			priced(t, set, total, err, want, sum(want, cost), nil, p.l, cost)
		}
	}
}

// The same for sets of any events: the least ones are among the minimal ones.
func TestLeastAndCheapestOfAllEvents(t *testing.T) {
	r := rand.New(rand.NewPCG(7, 32))
	for _, l := range wideLists(4, 200) {
		found, err := hitting.All(l)
		if err == api.ErrLarge {
			continue
		}
		got, err := hitting.Least(l)
		numbered(t, got, err, found[0], nil, "Least", l)
		for kind := range 12 {
			cost := costs(r, kind)
			want := cheapest(found, cost)
			set, total, err := hitting.Cheapest(l, cost)
			priced(t, set, total, err, want, sum(want, cost), nil, l, cost)
		}
	}
}

// No sets, the empty set, and cases in which two of the three comparisons disagree.
func TestCheapestOfGivenLists(t *testing.T) {
	var star []int
	for i := range 23 {
		star = append(star, 1|2<<i)
	}
	free := append([]int{1}, make([]int, 23)...)
	ones := slices.Repeat([]int{1}, 24)
	with := func(i, c int) []int {
		list := slices.Clone(ones)
		list[i] = c
		return list
	}
	top := slices.Repeat([]int{hitting.MaxCost}, 24)
	for _, c := range []struct {
		l, cost    []int
		set, total int
	}{
		{nil, nil, 0, 0},
		{nil, top, 0, 0},
		{[]int{}, []int{}, 0, 0},
		{[]int{3, 6}, []int{1, 5, 2}, 5, 3},
		{[]int{3, 6}, []int{1, 3, 2}, 2, 3},
		{[]int{3, 6}, []int{0, 0, 0}, 2, 0},
		{[]int{6, 6, 3, 7}, []int{1, 5, 2}, 5, 3},
		{[]int{6}, []int{0, 7, 7}, 2, 7},
		// {0, 3} and {1, 2} have equally many events; the mask of the second one is less.
		{[]int{3, 5, 10, 12}, []int{4, 4, 4, 4}, 6, 8},
		{[]int{3, 5, 10, 12}, []int{4, 4, 4, 3}, 9, 7},
		// One event that counts against 23 others.
		{star, make([]int, 24), 1, 0},
		{star, free, all - 1, 0},
		{star, ones, 1, 1},
		{star, with(0, 23), 1, 23},
		{star, with(0, 24), all - 1, 23},
		{star, top, 1, hitting.MaxCost},
		{groups(24, 1), top, all, 24 * 1048576},
		{groups(24, 1), ones, all, 24},
		{[]int{all}, top, 1, hitting.MaxCost},
		{[]int{all}, with(23, 0), 1 << 23, 0},
		{groups(2, 12), with(23, 0), 1<<23 + 1, 1},
		// Costs of events that do not occur, and of more than there are.
		{[]int{3, 6}, []int{1, 5, 2, 0, 0, 9}, 5, 3},
		{[]int{4}, []int{0, 0, 8}, 4, 8},
		{[]int{4}, append(slices.Clone(top), top...), 4, hitting.MaxCost},
	} {
		set, total, err := hitting.Cheapest(c.l, c.cost)
		priced(t, set, total, err, c.set, c.total, nil, c.l, c.cost)
	}
}

func TestLeastOfGivenLists(t *testing.T) {
	for _, c := range []struct {
		l    []int
		want int
	}{
		{nil, 0},
		{[]int{}, 0},
		{[]int{3, 6, 12}, 5},
		{[]int{3, 5, 10, 12}, 6},
		{[]int{all}, 1},
		{groups(24, 1), all},
		{[]int{1 << 23}, 1 << 23},
		{[]int{1<<23 | 1<<22, 1<<23 | 1<<21}, 1 << 23},
	} {
		got, err := hitting.Least(c.l)
		numbered(t, got, err, c.want, nil, "Least", c.l)
	}
}

// among returns a function that finds the cheapest of the sets.
func among(l []int) func(cost []int) int {
	return func(cost []int) int { return cheapest(l, cost) }
}

// fewOfEachHalf returns the cheapest set of n of the first 12 events and n of the others.
func fewOfEachHalf(n int) func(cost []int) int {
	return func(cost []int) int {
		s := 0
		for _, first := range []int{0, 12} {
			var events []int
			for i := range 12 {
				events = append(events, first+i)
			}
			slices.SortStableFunc(events, func(i, j int) int { return cost[i] - cost[j] })
			for _, i := range events[:n] {
				s |= 1 << i
			}
		}
		return s
	}
}

// Lists for which All has too many sets are no error here.
func TestLeastAndCheapestOfManySets(t *testing.T) {
	crowd, crowdHits := crowded(11)
	halves := choose(12, 8)
	for _, s := range halves {
		halves = append(halves, s*4096)
	}
	for name, c := range map[string]struct {
		l    []int
		best func(cost []int) int
	}{
		"12 pairs":                {groups(12, 2), among(choices(groups(12, 2)))},
		"8 triples":               {groups(8, 3), among(choices(groups(8, 3)))},
		"6 quadruples":            {groups(6, 4), among(choices(groups(6, 4)))},
		"pairs and triples":       {crowd, among(crowdHits)},
		"choices of 10 pairs":     {choices(groups(10, 2)), among(groups(10, 2))},
		"8 of the events, halves": {halves, fewOfEachHalf(5)},
		"4 of 14 events":          {choose(14, 4), among(choose(14, 11))},
		"1024 equal sets":         {slices.Repeat([]int{5}, 1024), among([]int{1, 4})},
		"all sets of 10 events":   {subsets(3, 4, 5, 6, 7, 8, 9, 10, 11, 23)[1:], among([]int{0x800ff8})},
	} {
		l := mixed(c.l)
		got, err := hitting.Least(l)
		numbered(t, got, err, c.best(make([]int, 24)), nil, "Least", name)
		r := rand.New(rand.NewPCG(7, 33))
		for kind := range 12 {
			cost := costs(r, kind)
			want := c.best(cost)
			set, total, err := hitting.Cheapest(l, cost)
			priced(t, set, total, err, want, sum(want, cost), nil, name, cost)
		}
	}
}

// A cost is wanted for each event up to the greatest one, also if it occurs only in a set that is not minimal, or if
// there is no hitting set.
func TestCheapestShape(t *testing.T) {
	for _, c := range []struct {
		l      []int
		n, set int
		fault  error
	}{
		{nil, 0, 0, nil},
		{[]int{1}, 1, 1, nil},
		{[]int{6}, 3, 2, nil},
		{[]int{1 << 23}, 24, 1 << 23, nil},
		{[]int{1, 33}, 6, 1, nil},
		{[]int{33, 1, 9}, 6, 1, nil},
		{[]int{0}, 0, 0, api.ErrInfeasible},
		{[]int{0, 32}, 6, 0, api.ErrInfeasible},
		{[]int{3, 0}, 2, 0, api.ErrInfeasible},
	} {
		for n := range c.n + 3 {
			want, fault := c.set, c.fault
			if n < c.n {
				want, fault = 0, api.ErrShape
			}
			set, total, err := hitting.Cheapest(c.l, make([]int, n))
			priced(t, set, total, err, want, 0, fault, c.l, n)
		}
	}
}

// Each cost is looked at, also those of events that do not occur, and before it is seen that there is no hitting set.
// The number of costs counts first, and list errors before it.
func TestCheapestRange(t *testing.T) {
	for _, wrong := range []int{-1, -2, hitting.MaxCost + 1, 1 << 32, 1<<32 + 5, math.MinInt, math.MaxInt} {
		for _, at := range []int{0, 1, 2, 5, 23, 24, 40} {
			cost := slices.Repeat([]int{hitting.MaxCost, 0}, 21)
			cost[at] = wrong
			for _, l := range [][]int{nil, {0}, {3, 6}, {1, 5}, {0, 4}, {all}} {
				set, total, err := hitting.Cheapest(l, cost)
				priced(t, set, total, err, 0, 0, api.ErrRange, l, cost)
			}
			set, total, err := hitting.Cheapest([]int{0, all}, cost[:min(at+1, 23)])
			priced(t, set, total, err, 0, 0, api.ErrShape, all, cost)
			set, total, err = hitting.Cheapest([]int{0, all + 1}, cost)
			priced(t, set, total, err, 0, 0, api.ErrRange, all+1, cost)
			set, total, err = hitting.Cheapest(make([]int, 1025), cost)
			priced(t, set, total, err, 0, 0, api.ErrLarge, "1025 sets", cost)
		}
	}
	for _, bad := range badLists() {
		for _, cost := range [][]int{nil, {-1}, {1, 2, 3}, slices.Repeat([]int{7}, 24)} {
			set, total, err := hitting.Cheapest(bad.l, cost)
			priced(t, set, total, err, 0, 0, bad.want, len(bad.l), cost)
		}
	}
}

// TestNoHittingSetIsCheaper checks promise P7.4 for any hitting sets of lists of any length.
func TestNoHittingSetIsCheaper(t *testing.T) {
	r := rand.New(rand.NewPCG(7, 34))
	lists := append(wideLists(5, 100), groups(12, 2), groups(8, 3), choose(14, 4), mixed(choose(20, 3)[:1024]))
	for i, l := range lists {
		cost := costs(r, i)
		set, total, err := hitting.Cheapest(l, cost)
		if err != nil || !hits(l, set) || sum(set, cost) != total {
			t.Fatalf("Cheapest(%v, %v) = %d, %d, %v", l, cost, set, total, err)
		}
		least, err := hitting.Least(l)
		if err != nil || !hits(l, least) {
			t.Fatalf("Least(%v) = %d, %v", l, least, err)
		}
		packed, err := hitting.Packing(l)
		if err != nil || len(packed) > size(least) {
			t.Errorf("Packing(%v) = %v, %v, but %d is a hitting set", l, packed, err, least)
		}
		for range 100 {
			s := grown(r, l)
			if sum(s, cost) < total || cheapest([]int{s, set}, cost) != set {
				t.Errorf("Cheapest(%v, %v) = %d, %d, but %d is less", l, cost, set, total, s)
			}
			if order(s, least) < 0 || size(s) < len(packed) {
				t.Errorf("%v: %d is a hitting set, but Least %d, Packing %v", l, s, least, packed)
			}
		}
	}
}
