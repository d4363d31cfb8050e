package hitting_test

import (
	"math/rand/v2"
	"slices"
	"testing"

	"faultline/api"
	"faultline/hitting"
)

// TestAll compares All with all sets of the events.
func TestAll(t *testing.T) {
	for _, p := range someProblems() {
		got, err := hitting.All(p.l)
		listed(t, got, err, lowest(p.hittingSets()), nil, "All", p.l)
	}
}

// Examples, no sets, and the empty set, which cannot be met.
func TestAllOfGivenLists(t *testing.T) {
	var powers []int
	for i := range 24 {
		powers = append(powers, 1<<i)
	}
	for _, c := range []struct{ l, want []int }{
		{nil, []int{0}},
		{[]int{}, []int{0}},
		{[]int{0}, nil},
		{[]int{3, 0}, nil},
		{[]int{0, 1, 0}, nil},
		{[]int{3, 6}, []int{2, 5}},
		{[]int{6, 3, 7, 6}, []int{2, 5}},
		{[]int{1}, []int{1}},
		{[]int{all}, powers},
		{powers, []int{all}},
		{append([]int{all}, powers...), []int{all}},
		{[]int{3, 5, 6}, []int{3, 5, 6}},
		{[]int{1<<23 | 1<<22, 1<<23 | 1}, []int{1 << 23, 1<<22 | 1}},
	} {
		got, err := hitting.All(c.l)
		listed(t, got, err, c.want, nil, "All", c.l)
	}
}

// The most sets that a list can have, and one more step.
func TestAllOfManySets(t *testing.T) {
	for _, c := range []struct{ count, n int }{{10, 2}, {6, 3}, {5, 4}, {4, 5}, {3, 8}, {2, 12}, {1, 24}} {
		l := groups(c.count, c.n)
		want := choices(l)
		got, err := hitting.All(mixed(l))
		listed(t, got, err, want, nil, "All", l)
		got, err = hitting.All(mixed(want))
		listed(t, got, err, l, nil, "All of the choices of", l)
	}
	for _, c := range []struct{ count, n int }{{11, 2}, {12, 2}, {7, 3}, {8, 3}, {6, 4}} {
		l := groups(c.count, c.n)
		got, err := hitting.All(mixed(l))
		listed(t, got, err, nil, api.ErrLarge, "All", l)
	}
	got, err := hitting.All(choose(14, 4))
	listed(t, got, err, choose(14, 11), nil, "All", "the sets of 4 of 14 events")
	got, err = hitting.All(choose(13, 10))
	listed(t, got, err, choose(13, 4), nil, "All", "the sets of 10 of 13 events")
}

// The minimal hitting sets of the first sets are too many, those of all sets are not.
func TestAllIsTooLargeOnTheWay(t *testing.T) {
	l, want := crowded(11)
	got, err := hitting.All(l)
	listed(t, got, err, nil, api.ErrLarge, "All", l)
	for i, s := range want {
		if is, err := hitting.Minimal(l, s); !is || err != nil || i > 0 && want[i-1] >= s {
			t.Errorf("%d is no new minimal hitting set: %v, %v", s, is, err)
		}
	}
	l, want = crowded(10)
	got, err = hitting.All(l)
	listed(t, got, err, want, nil, "All", l)
}

// crowded returns a list whose sets of two events alone have 2^pairs minimal hitting sets, and its minimal hitting
// sets, a half as many. Four sets of three events leave four choices of the first three pairs.
func crowded(pairs int) (l, found []int) {
	triples := []int{0b010101, 0b101001, 0b100110, 0b011010}
	for _, s := range choices(groups(pairs, 2)) {
		if slices.Contains(triples, s%64) {
			found = append(found, s)
		}
	}
	return append(triples, groups(pairs, 2)...), found
}

// The sets of three events alone have too many minimal hitting sets, but the sets of two events are taken first,
// whichever comes first in the list. They leave two hitting sets: each half of the events.
func TestAllTakesTheSetsInOrder(t *testing.T) {
	l := groups(8, 3)
	for low := range 12 {
		for high := range 12 {
			l = append(l, 1<<low|1<<(12+high))
		}
	}
	half := all % 4096
	var want []int
	for _, s := range choices(groups(4, 3)) {
		want = append(want, half*4096+s, s*4096+half)
	}
	slices.SortFunc(want, order)
	for _, m := range [][]int{l, mixed(l)} {
		got, err := hitting.All(m)
		listed(t, got, err, want, nil, "All", "8 triples and 144 pairs")
	}
}

// TestHittingSetsContainOneOfAll checks promise P7.2 for sets of any events.
func TestHittingSetsContainOneOfAll(t *testing.T) {
	r := rand.New(rand.NewPCG(7, 21))
	checked := 0
	for _, l := range wideLists(2, 150) {
		found, err := hitting.All(l)
		if err == api.ErrLarge {
			continue
		}
		if err != nil || !slices.IsSortedFunc(found, order) {
			t.Fatalf("All(%v) = %v, %v", l, found, err)
		}
		checked++
		for _, s := range found {
			for i := range 24 {
				if !hits(l, s) || s>>i&1 == 1 && hits(l, s-1<<i) {
					t.Errorf("All(%v): %d can be made smaller, or is no hitting set", l, s)
				}
			}
		}
		for range 100 {
			s := grown(r, l)
			for _, s := range []int{s, s &^ (1 << r.IntN(24)), r.IntN(all + 1)} {
				contains := slices.ContainsFunc(found, func(part int) bool { return part&s == part })
				if contains != hits(l, s) {
					t.Errorf("All(%v) = %v, but %d", l, found, s)
				}
			}
		}
	}
	if checked < 75 {
		t.Errorf("only %d lists were looked at", checked)
	}
}

// TestDuality checks promise P7.3.
func TestDuality(t *testing.T) {
	lists := wideLists(3, 100)
	for _, p := range someProblems() {
		lists = append(lists, p.l)
	}
	checked := 0
	for _, l := range lists {
		once, err := hitting.All(l)
		if err == api.ErrLarge {
			continue
		}
		twice, err := hitting.All(once)
		if err == api.ErrLarge {
			continue
		}
		listed(t, twice, err, lowest(l), nil, "All of All", l)
		checked++
	}
	if checked < len(lists)*9/10 {
		t.Errorf("only %d of %d lists were looked at", checked, len(lists))
	}
}
