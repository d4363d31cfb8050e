package hitting_test

import (
	"slices"
	"testing"

	"faultline/api"
	"faultline/hitting"
)

// TestMinimal compares Minimal with all sets of the events.
func TestMinimal(t *testing.T) {
	for _, p := range someProblems() {
		minimal := lowest(p.hittingSets())
		for _, s := range subsets(p.events...) {
			got, err := hitting.Minimal(p.l, s)
			told(t, got, err, slices.Contains(minimal, s), nil, "Minimal", p.l, s)
		}
	}
}

func TestMinimalOfGivenLists(t *testing.T) {
	for _, c := range []struct {
		l    []int
		s    int
		want bool
	}{
		{nil, 0, true},
		{nil, 1, false},
		{nil, all, false},
		{[]int{0}, 0, false},
		{[]int{0}, all, false},
		{[]int{3, 0}, 1, false},
		{[]int{3, 6}, 2, true},
		{[]int{3, 6}, 5, true},
		{[]int{3, 6}, 3, false},
		{[]int{3, 6}, 7, false},
		{[]int{3, 6}, 1, false},
		{[]int{3, 6}, 0, false},
		{[]int{3, 6}, 2 + 1<<23, false},
		{[]int{3, 6, 7}, 5, true},
		{[]int{all}, 1 << 23, true},
		{[]int{all}, 1<<23 + 1, false},
		{groups(12, 2), 0x555555, true},
		{groups(12, 2), 0xaaaaaa, true},
		{groups(12, 2), 0xaaaaab, false},
		{groups(12, 2), 0xaaaaa8, false},
		{choose(14, 4), 0x7ff, true},
		{choose(14, 4), 0xfff, false},
		{choose(14, 4), 0x3ff, false},
	} {
		got, err := hitting.Minimal(c.l, c.s)
		told(t, got, err, c.want, nil, "Minimal", len(c.l), c.s)
	}
}

// ErrRange comes also if the list is empty or has no hitting set.
func TestMinimalOfNoSet(t *testing.T) {
	for _, s := range notSets() {
		for _, l := range [][]int{nil, {0}, {3, 6}, {1, 2}, {all}, groups(12, 2)} {
			got, err := hitting.Minimal(l, s)
			told(t, got, err, false, api.ErrRange, "Minimal", l, s)
		}
		got, err := hitting.Minimal(make([]int, 1025), s)
		told(t, got, err, false, api.ErrLarge, "Minimal", "1025 sets", s)
	}
}

// TestDual gives Dual the minimal hitting sets, other sets with them, and one of them less.
func TestDual(t *testing.T) {
	for _, p := range someProblems() {
		hittingSets := p.hittingSets()
		minimal := lowest(hittingSets)
		for _, c := range []struct {
			b    []int
			want bool
		}{
			{minimal, true},
			{mixed(hittingSets), true},
			{mixed(slices.Concat(minimal, minimal)), true},
			{append(slices.Clone(minimal), 0), slices.Equal(minimal, []int{0})},
			{p.l, slices.Equal(lowest(p.l), minimal)},
			{nil, len(minimal) == 0},
			{[]int{0}, slices.Equal(minimal, []int{0})},
		} {
			got, err := hitting.Dual(p.l, c.b)
			told(t, got, err, c.want, nil, "Dual", p.l, c.b)
			if c.want {
				got, err = hitting.Dual(c.b, p.l)
				told(t, got, err, true, nil, "Dual", c.b, p.l)
			}
		}
		for i := range minimal {
			less := slices.Delete(slices.Clone(minimal), i, i+1)
			got, err := hitting.Dual(p.l, less)
			told(t, got, err, false, nil, "Dual", p.l, less)
		}
	}
}

// Dual returns ErrLarge where All does, whatever b is, and only for a.
func TestDualOfManySets(t *testing.T) {
	crowd, hittingSets := crowded(11)
	for _, a := range [][]int{crowd, groups(11, 2), groups(12, 2), groups(7, 3)} {
		for _, b := range [][]int{nil, {0}, hittingSets, choices(groups(10, 2)), groups(7, 3)} {
			got, err := hitting.Dual(a, b)
			told(t, got, err, false, api.ErrLarge, "Dual", a, len(b))
		}
	}
	got, err := hitting.Dual([]int{1}, groups(12, 2))
	told(t, got, err, false, nil, "Dual", 1, groups(12, 2))
	pairs := groups(10, 2)
	got, err = hitting.Dual(pairs, mixed(choices(pairs)))
	told(t, got, err, true, nil, "Dual", pairs, "its choices")
	got, err = hitting.Dual(choices(pairs), pairs)
	told(t, got, err, true, nil, "Dual", "choices of", pairs)
	got, err = hitting.Dual(pairs, choices(pairs)[1:])
	told(t, got, err, false, nil, "Dual", pairs, "its choices but one")
}

// The list errors of a come first, then those of b, then ErrLarge for a.
func TestDualErrors(t *testing.T) {
	for _, bad := range badLists() {
		for _, good := range [][]int{nil, {0}, {3, 6}, groups(12, 2), slices.Repeat([]int{3}, 1024)} {
			got, err := hitting.Dual(bad.l, good)
			told(t, got, err, false, bad.want, "Dual", len(bad.l), len(good))
			got, err = hitting.Dual(good, bad.l)
			told(t, got, err, false, bad.want, "Dual", len(good), len(bad.l))
		}
		for _, other := range badLists() {
			got, err := hitting.Dual(bad.l, other.l)
			told(t, got, err, false, bad.want, "Dual", len(bad.l), len(other.l))
		}
	}
}
