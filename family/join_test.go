package family_test

import (
	"slices"
	"testing"

	"faultline/api"
	"faultline/family"
)

// joined checks Plus, Product and Same of two lists.
func joined(t *testing.T, a, b []int) {
	t.Helper()
	got, err := family.Plus(a, b)
	listed(t, got, err, lowest(slices.Concat(a, b)), nil, "Plus", a, b)
	got, err = family.Product(a, b)
	listed(t, got, err, lowest(once(joins(a, b), anything)), nil, "Product", a, b)
	same, err := family.Same(a, b)
	told(t, same, err, slices.Equal(lowest(a), lowest(b)), nil, "Same", a, b)
}

// All lists of the sets of three events, with each other.
func TestJoinsOfSmallLists(t *testing.T) {
	lists := smallLists(0, 11, 23)
	for _, a := range lists {
		for _, b := range lists {
			joined(t, a, b)
		}
	}
}

func TestJoinsOfRandomLists(t *testing.T) {
	lists := randomLists(2, 60)
	for i, a := range lists {
		joined(t, a, a)
		for _, b := range lists[:i] {
			if len(a)*len(b) < 100 {
				joined(t, a, b)
			}
		}
	}
}

// No sets, the empty set, and examples.
func TestJoinsOfGivenLists(t *testing.T) {
	for _, c := range []struct{ a, b, plus, product []int }{
		{nil, nil, nil, nil},
		{nil, []int{}, nil, nil},
		{nil, []int{0}, []int{0}, nil},
		{nil, []int{7, 3, 4}, []int{4, 3}, nil},
		{[]int{0}, []int{0}, []int{0}, []int{0}},
		{[]int{0}, []int{7, 3, 4}, []int{0}, []int{4, 3}},
		{[]int{all}, []int{7, 3, 4}, []int{4, 3}, []int{all}},
		{[]int{1, 2}, []int{1, 4}, []int{1, 2, 4}, []int{1, 6}},
		{[]int{3, 4}, []int{1}, []int{1, 4}, []int{3, 5}},
	} {
		for _, pair := range [][2][]int{{c.a, c.b}, {c.b, c.a}} {
			got, err := family.Plus(pair[0], pair[1])
			listed(t, got, err, c.plus, nil, "Plus", pair)
			got, err = family.Product(pair[0], pair[1])
			listed(t, got, err, c.product, nil, "Product", pair)
		}
	}
}

func TestSame(t *testing.T) {
	for _, c := range []struct {
		a, b []int
		want bool
	}{
		{nil, []int{}, true},
		{nil, []int{0}, false},
		{[]int{0}, []int{0, 5, all, 0}, true},
		{[]int{1, 3}, []int{1, 5, 1}, true},
		{[]int{6, 1}, []int{1, 6}, true},
		{[]int{1, 2}, []int{1}, false},
		{[]int{1, 2}, []int{1, 4}, false},
		{[]int{3}, []int{1, 2}, false},
		{many(1024, 0), many(1024, 1), false},
		{many(1024, 1), many(1024, 1), true},
		{many(1024, 1), many(1023, 1), false},
	} {
		for _, pair := range [][2][]int{{c.a, c.b}, {c.b, c.a}} {
			got, err := family.Same(pair[0], pair[1])
			told(t, got, err, c.want, nil, "Same", len(c.a), len(c.b))
		}
	}
}

// What counts for ErrLarge of Plus is the number of the minimal sets.
func TestLimitOfPlus(t *testing.T) {
	most := many(1024, 0)
	for _, c := range []struct {
		a, b, want []int
		fault      error
	}{
		{most, nil, most, nil},
		{most, most, most, nil},
		{most[:500], most[400:], most, nil},
		{most[500:], most[:501], most, nil},
		{most, []int{most[7] + 1<<23, most[1000] + 1<<23}, most, nil},
		{most[:1023], []int{1 << 23}, append([]int{1 << 23}, most[:1023]...), nil},
		{most, []int{0}, []int{0}, nil},
		{most, []int{1 << 22}, nil, api.ErrLarge},
		{most, []int{3 << 22, all}, nil, api.ErrLarge},
		{most, many(1025, 0)[1:], nil, api.ErrLarge},
		{most, many(1024, 1), nil, api.ErrLarge},
		{many(1024, 2), choices(1, 12), slices.Concat(choices(1, 12), once(many(1024, 2), func(s int) bool { return s < 1<<12 })), nil},
	} {
		for _, pair := range [][2][]int{{c.a, c.b}, {c.b, c.a}} {
			got, err := family.Plus(pair[0], pair[1])
			listed(t, got, err, c.want, c.fault, "Plus", len(pair[0]), len(pair[1]))
		}
	}
}

// What counts for ErrLarge of Product is the number of the minimal sets: of the events 0 to 11 and 12 to 23, all unions
// are minimal.
func TestLimitOfProduct(t *testing.T) {
	low, high := choices(2, 0), choices(2, 12)
	for _, c := range []struct {
		a, b  []int
		count int
	}{
		{low[:32], high[:32], 1024},
		{low[:1], high[:66], 66},
		{low[:15], high[:66], 990},
		{low[:25], high[:41], 1025},
		{low[:32], high[:33], 1056},
		{low, high, 4356},
		{choices(6, 0), choices(6, 12), 924 * 924},
		{many(1024, 0), []int{1 << 22}, 1024},
		{many(1024, 0), []int{1 << 22, 1 << 23}, 2048},
	} {
		var want []int
		var fault error = api.ErrLarge
		if c.count <= 1024 {
			want, fault = once(joins(c.a, c.b), anything), nil
		}
		if len(want) != c.count && fault == nil {
			t.Fatalf("%d unions, not %d", len(want), c.count)
		}
		for _, pair := range [][2][]int{{c.a, c.b}, {c.b, c.a}} {
			got, err := family.Product(pair[0], pair[1])
			listed(t, got, err, want, fault, "Product", len(pair[0]), len(pair[1]))
		}
	}
}

// Of a million unions, few enough are minimal.
func TestProductOfManySets(t *testing.T) {
	base := many(1024, 0)
	var a, b, both []int
	for _, s := range base {
		a, b, both = append(a, s+1<<22), append(b, s+1<<23), append(both, s+3<<22)
	}
	got, err := family.Product(base, base)
	listed(t, got, err, base, nil, "Product", "1024 sets, with themselves")
	got, err = family.Product(a, b)
	listed(t, got, err, both, nil, "Product", "1024 sets, with an event added on each side")
	got, err = family.Product(base, b)
	listed(t, got, err, b, nil, "Product", "1024 sets, with an event added on one side")
	var subsets []int
	for s := range 1024 {
		subsets = append(subsets, s)
	}
	got, err = family.Product(subsets[1:], many(100, 2))
	listed(t, got, err, lowest(joins(powers()[:10], many(100, 2))), nil, "Product", "1023 sets, of which 10 are minimal")
}
