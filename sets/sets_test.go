package sets_test

import (
	"cmp"
	"slices"
	"testing"

	"faultline/api"
	"faultline/sets"
)

func TestValidAndCut(t *testing.T) {
	for _, s := range fewSets() {
		if !sets.Valid(s) || sets.Cut(s) != s {
			t.Errorf("%d: Valid %v, Cut %d", s, sets.Valid(s), sets.Cut(s))
		}
	}
	for _, s := range notSets() {
		if sets.Valid(s) {
			t.Errorf("%d is valid", s)
		}
	}
	for _, s := range samples() {
		if got, want := sets.Cut(s), set(elements(s)...); got != want || !sets.Valid(got) {
			t.Errorf("Cut(%d) = %d, want %d", s, got, want)
		}
	}
}

// Bits that stand for no event are among the samples.
func TestElements(t *testing.T) {
	for _, s := range samples() {
		list := elements(s)
		if n := sets.Count(s); n != len(list) {
			t.Errorf("Count(%d) = %d, want %d", s, n, len(list))
		}
		least, greatest := -1, -1
		if len(list) > 0 {
			least, greatest = list[0], list[len(list)-1]
		}
		if i := sets.Least(s); i != least {
			t.Errorf("Least(%d) = %d, want %d", s, i, least)
		}
		if i := sets.Greatest(s); i != greatest {
			t.Errorf("Greatest(%d) = %d, want %d", s, i, greatest)
		}
		for _, i := range indexes() {
			if got, want := sets.Has(s, i), slices.Contains(list, i); got != want {
				t.Errorf("Has(%d, %d) = %v", s, i, got)
			}
		}
	}
}

// isPart reports whether all elements of the list a are in the list b.
func isPart(a, b []int) bool {
	return !slices.ContainsFunc(a, func(i int) bool { return !slices.Contains(b, i) })
}

// order compares two sets by the lists of their elements. Of two masks the greatest element that is only in one of them
// decides, and with equally many elements the lists end equally up to there.
func order(a, b []int) int {
	if len(a) != len(b) {
		return cmp.Compare(len(a), len(b))
	}
	a, b = slices.Clone(a), slices.Clone(b)
	slices.Reverse(a)
	slices.Reverse(b)
	return slices.Compare(a, b)
}

func TestSubsetAndCompare(t *testing.T) {
	for _, a := range samples() {
		for _, b := range samples() {
			x, y := elements(a), elements(b)
			if got := sets.Subset(a, b); got != isPart(x, y) {
				t.Errorf("Subset(%d, %d) = %v", a, b, got)
			}
			if got, want := sets.Compare(a, b), order(x, y); got != want {
				t.Errorf("Compare(%d, %d) = %d, want %d", a, b, got, want)
			}
		}
	}
}

// TestCompareIsATotalOrder checks promise P5.2.
func TestCompareIsATotalOrder(t *testing.T) {
	list := fewSets()
	for _, a := range list {
		for _, b := range list {
			n := sets.Compare(a, b)
			if (n == 0) != (a == b) || n != -sets.Compare(b, a) || n < -1 || n > 1 {
				t.Errorf("Compare(%d, %d) = %d, and %d the other way", a, b, n, sets.Compare(b, a))
			}
			if a != b && sets.Subset(a, b) && n != -1 {
				t.Errorf("the part %d of %d is not less", a, b)
			}
			for _, c := range list {
				if n <= 0 && sets.Compare(b, c) <= 0 && sets.Compare(a, c) > 0 {
					t.Errorf("%d, %d and %d are in no order", a, b, c)
				}
			}
		}
	}
}

// Each set is greater than those that are made by taking out one of its elements, and so than all of its parts.
func TestPartsAreLess(t *testing.T) {
	for s := range 1 << 16 {
		for i := range 16 {
			if part := s &^ (1 << i); part != s && (sets.Compare(part, s) != -1 || sets.Compare(s, part) != 1) {
				t.Fatalf("Compare(%d, %d) = %d", part, s, sets.Compare(part, s))
			}
		}
	}
}

func TestOf(t *testing.T) {
	var upward, downward []int
	for i := range 24 {
		upward, downward = append(upward, i), append(downward, 23-i)
	}
	for _, c := range []struct {
		list []int
		want int
		err  error
	}{
		{nil, 0, nil},
		{[]int{}, 0, nil},
		{[]int{3, 0}, 9, nil},
		{[]int{23}, 1 << 23, nil},
		{upward, all, nil},
		{downward, all, nil},
		{append(upward[:24:24], 24), 0, api.ErrLarge},
		{append([]int{-1}, upward...), 0, api.ErrLarge},
		{make([]int, 25), 0, api.ErrLarge},
		{make([]int, 1000), 0, api.ErrLarge},
		{make([]int, 24), 0, api.ErrTwice},
		{[]int{5, 5}, 0, api.ErrTwice},
		{[]int{5, 23, 0, 23}, 0, api.ErrTwice},
		{[]int{5, 5, 24}, 0, api.ErrTwice},
		{[]int{5, 24, 5}, 0, api.ErrRange},
		{[]int{24, 24}, 0, api.ErrRange},
		{[]int{1, -1, 1}, 0, api.ErrRange},
		{append(upward[:23:23], 24), 0, api.ErrRange},
	} {
		arg := slices.Clone(c.list)
		got, err := sets.Of(arg)
		numbered(t, got, err, c.want, c.err, "Of", c.list)
		if !slices.Equal(arg, c.list) {
			t.Errorf("Of(%v) changed its argument to %v", c.list, arg)
		}
	}
	for _, i := range indexes() {
		for _, before := range [][]int{nil, {11, 7}} {
			ok := i >= 0 && i < 24
			want := 0
			if ok && len(before) == 2 && (i == 11 || i == 7) {
				continue
			} else if ok {
				want = set(append(before, i)...)
			}
			got, err := sets.Of(append(slices.Clone(before), i))
			numbered(t, got, err, want, ranged(ok), "Of", before, i)
		}
	}
}

func TestList(t *testing.T) {
	for _, s := range fewSets() {
		got, err := sets.List(s)
		listed(t, got, err, elements(s), nil, "List", s)
	}
	for _, s := range notSets() {
		got, err := sets.List(s)
		listed(t, got, err, nil, api.ErrRange, "List", s)
	}
}

// TestOfAndListAreInverse checks promise P5.4: for all sets of the first events and some of the others, and for lists
// that do not ascend, which come back in order.
func TestOfAndListAreInverse(t *testing.T) {
	for s := 0; s <= all; s += 1 + s>>10 {
		list, err := sets.List(s)
		if err != nil {
			t.Fatalf("List(%d): %v", s, err)
		}
		back, err := sets.Of(list)
		numbered(t, back, err, s, nil, "Of", list)
		slices.Reverse(list)
		back, err = sets.Of(list)
		numbered(t, back, err, s, nil, "Of", list)
		again, err := sets.List(back)
		slices.Sort(list)
		listed(t, again, err, list, nil, "List", back)
	}
}
