package family_test

import (
	"math/rand/v2"
	"slices"
	"testing"

	"faultline/api"
	"faultline/family"
)

func TestMinimalAndMaximal(t *testing.T) {
	for _, l := range someLists() {
		got, err := family.Minimal(l)
		listed(t, got, err, lowest(l), nil, "Minimal", l)
		got, err = family.Maximal(l)
		listed(t, got, err, highest(l), nil, "Maximal", l)
	}
}

// Lists with as many sets as are permitted.
func TestMinimalAndMaximalOfManySets(t *testing.T) {
	many := many(1024, 2)
	turned := slices.Clone(many)
	slices.Reverse(turned)
	for _, l := range [][]int{many, turned} {
		got, err := family.Minimal(l)
		listed(t, got, err, many, nil, "Minimal", "1024 sets")
		got, err = family.Maximal(l)
		listed(t, got, err, many, nil, "Maximal", "1024 sets")
	}
	for _, s := range []int{0, all} {
		l := append(slices.Clone(many[:1023]), s)
		low, high := []int{0}, many[:1023]
		if s == all {
			low, high = high, []int{all}
		}
		got, err := family.Minimal(l)
		listed(t, got, err, low, nil, "Minimal", "1023 sets", s)
		got, err = family.Maximal(l)
		listed(t, got, err, high, nil, "Maximal", "1023 sets", s)
	}
	var chain []int
	for s := range 1024 {
		chain = append(chain, s)
	}
	got, err := family.Minimal(chain)
	listed(t, got, err, []int{0}, nil, "Minimal", "all sets of 10 events")
	got, err = family.Maximal(chain)
	listed(t, got, err, []int{1023}, nil, "Maximal", "all sets of 10 events")
	got, err = family.Minimal(chain[1:])
	listed(t, got, err, powers()[:10], nil, "Minimal", "all sets of 10 events but the empty one")
}

// probes returns sets that are compared with a list: some of its sets, with events taken out and added, and others.
func probes(r *rand.Rand, l []int) []int {
	list := []int{0, all, r.IntN(all + 1), r.IntN(all+1) | r.IntN(all+1)}
	for range min(len(l), 6) {
		s := l[r.IntN(len(l))]
		power := powers()[r.IntN(24)]
		list = append(list, s, all-s, join(s, power), minus(s, power), minus(all-s, power), join(s, r.IntN(all+1)))
	}
	return list
}

func TestCoversAndMeets(t *testing.T) {
	r := rand.New(rand.NewPCG(6, 2))
	for _, l := range someLists() {
		for _, s := range probes(r, l) {
			got, err := family.Covers(l, s)
			covered := slices.ContainsFunc(l, func(other int) bool { return part(other, s) })
			told(t, got, err, covered, nil, "Covers", l, s)
			got, err = family.Meets(l, s)
			missed := slices.ContainsFunc(l, func(other int) bool { return !meet(other, s) })
			told(t, got, err, !missed, nil, "Meets", l, s)
		}
	}
}

// The empty list, and lists with the empty set.
func TestCoversAndMeetsOfNothing(t *testing.T) {
	for _, c := range []struct {
		l             []int
		s             int
		covers, meets bool
	}{
		{nil, 0, false, true},
		{nil, all, false, true},
		{[]int{}, 5, false, true},
		{[]int{0}, 0, true, false},
		{[]int{0}, all, true, false},
		{[]int{5, 0}, 5, true, false},
		{[]int{5}, 0, false, false},
		{[]int{all}, all, true, true},
		{[]int{all}, all - 1, false, true},
	} {
		got, err := family.Covers(c.l, c.s)
		told(t, got, err, c.covers, nil, "Covers", c.l, c.s)
		got, err = family.Meets(c.l, c.s)
		told(t, got, err, c.meets, nil, "Meets", c.l, c.s)
	}
}

// restricted returns what Restrict must return for two sets that do not meet.
func restricted(l []int, failed, working int) []int {
	var left []int
	for _, s := range l {
		if !meet(s, working) {
			left = append(left, minus(s, failed))
		}
	}
	return lowest(left)
}

func TestRestrict(t *testing.T) {
	r := rand.New(rand.NewPCG(6, 3))
	for _, l := range someLists() {
		for range 12 {
			failed, working := r.IntN(all+1), r.IntN(all+1)&r.IntN(all+1)&r.IntN(all+1)
			for _, f := range []int{0, minus(failed, working), all - working} {
				for _, w := range []int{0, working, all - f} {
					if meet(f, w) {
						continue
					}
					got, err := family.Restrict(l, f, w)
					listed(t, got, err, restricted(l, f, w), nil, "Restrict", l, f, w)
				}
			}
		}
	}
	got, err := family.Restrict([]int{3, 4}, 1, 0)
	listed(t, got, err, []int{2, 4}, nil, "Restrict")
	got, err = family.Restrict([]int{3, 4, 24}, 1, 8)
	listed(t, got, err, []int{2, 4}, nil, "Restrict")
	got, err = family.Restrict([]int{3, 4, 24}, 4, 0)
	listed(t, got, err, []int{0}, nil, "Restrict")
	got, err = family.Restrict([]int{3, 4, 24}, 0, all)
	listed(t, got, err, nil, nil, "Restrict")
	got, err = family.Restrict([]int{3, 0, 24}, 0, all)
	listed(t, got, err, []int{0}, nil, "Restrict")
	got, err = family.Restrict(many(1024, 0), 0, 1<<23)
	listed(t, got, err, many(1024, 0), nil, "Restrict", "1024 sets")
}

// ErrRange and ErrForm come behind the list errors, and also if the list is empty.
func TestErrorsOfSets(t *testing.T) {
	for _, l := range [][]int{nil, {0}, {3, 4}, many(1024, 0)} {
		for _, s := range notSets() {
			got, err := family.Covers(l, s)
			told(t, got, err, false, api.ErrRange, "Covers", len(l), s)
			got, err = family.Meets(l, s)
			told(t, got, err, false, api.ErrRange, "Meets", len(l), s)
			for _, other := range []int{0, 1, 5, all, s} {
				list, err := family.Restrict(l, s, other)
				listed(t, list, err, nil, api.ErrRange, "Restrict", len(l), s, other)
				list, err = family.Restrict(l, other, s)
				listed(t, list, err, nil, api.ErrRange, "Restrict", len(l), other, s)
			}
		}
		for _, pair := range [][2]int{{1, 1}, {all, 1 << 23}, {6, 3}, {1 << 22, all}, {all, all}} {
			list, err := family.Restrict(l, pair[0], pair[1])
			listed(t, list, err, nil, api.ErrForm, "Restrict", len(l), pair)
		}
	}
	for _, bad := range badLists() {
		for _, s := range []int{0, all, -1, all + 1} {
			got, err := family.Covers(bad.l, s)
			told(t, got, err, false, bad.want, "Covers", len(bad.l), s)
			got, err = family.Meets(bad.l, s)
			told(t, got, err, false, bad.want, "Meets", len(bad.l), s)
			for _, other := range []int{0, 3, -1} {
				list, err := family.Restrict(bad.l, s, other)
				listed(t, list, err, nil, bad.want, "Restrict", len(bad.l), s, other)
			}
		}
	}
}
