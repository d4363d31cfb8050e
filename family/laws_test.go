package family_test

import (
	"math/rand/v2"
	"slices"
	"testing"

	"faultline/family"
)

// states returns all sets of the first three events, and others that are made of the sets of a list.
func states(r *rand.Rand, l []int) []int {
	list := probes(r, l)
	for s := range 8 {
		list = append(list, s)
	}
	return list
}

// covers calls Covers, which must not fail.
func covers(t *testing.T, l []int, s int) bool {
	t.Helper()
	got, err := family.Covers(l, s)
	if err != nil {
		t.Fatalf("Covers(%v, %d): %v", l, s, err)
	}
	return got
}

// TestCoversOfMinimalAndJoins checks promise P6.2.
func TestCoversOfMinimalAndJoins(t *testing.T) {
	r := rand.New(rand.NewPCG(6, 4))
	lists := append(smallLists(0, 1, 2), randomLists(3, 60)...)
	for _, a := range lists {
		minimal, err := family.Minimal(a)
		listed(t, minimal, err, minimal, nil, "Minimal", a)
		for _, s := range states(r, a) {
			if covers(t, a, s) != covers(t, minimal, s) {
				t.Errorf("%v and its minimal sets %v do not both cover %d", a, minimal, s)
			}
		}
		for range 10 {
			b := lists[r.IntN(len(lists))]
			plus, err := family.Plus(a, b)
			listed(t, plus, err, plus, nil, "Plus", a, b)
			product, err := family.Product(a, b)
			listed(t, product, err, product, nil, "Product", a, b)
			for _, s := range states(r, slices.Concat(a, b)) {
				x, y := covers(t, a, s), covers(t, b, s)
				if covers(t, plus, s) != (x || y) || covers(t, product, s) != (x && y) {
					t.Errorf("%v, %v, %d: Plus %v, Product %v", a, b, s, covers(t, plus, s), covers(t, product, s))
				}
			}
		}
	}
}

// plus and product call the functions, which must not fail.
func plus(t *testing.T, a, b []int) []int {
	t.Helper()
	got, err := family.Plus(a, b)
	if err != nil {
		t.Fatalf("Plus(%v, %v): %v", a, b, err)
	}
	return got
}

func product(t *testing.T, a, b []int) []int {
	t.Helper()
	got, err := family.Product(a, b)
	if err != nil {
		t.Fatalf("Product(%v, %v): %v", a, b, err)
	}
	return got
}

// lawful checks the laws of three families.
func lawful(t *testing.T, a, b, c []int) {
	t.Helper()
	for name, pair := range map[string][2][]int{
		"Plus is commutative":        {plus(t, a, b), plus(t, b, a)},
		"Product is commutative":     {product(t, a, b), product(t, b, a)},
		"Plus is associative":        {plus(t, a, plus(t, b, c)), plus(t, plus(t, a, b), c)},
		"Product is associative":     {product(t, a, product(t, b, c)), product(t, product(t, a, b), c)},
		"Product distributes":        {product(t, a, plus(t, b, c)), plus(t, product(t, a, b), product(t, a, c))},
		"Plus distributes":           {plus(t, a, product(t, b, c)), product(t, plus(t, a, b), plus(t, a, c))},
		"Plus of a family and none":  {plus(t, a, nil), a},
		"Product with the empty set": {product(t, a, []int{0}), a},
	} {
		if !slices.Equal(pair[0], pair[1]) {
			t.Errorf("%s: not of %v, %v, %v: %v, %v", name, a, b, c, pair[0], pair[1])
		}
	}
}

// TestLawsOfJoins checks promise P6.3: for all families of three events, and for some of all events.
func TestLawsOfJoins(t *testing.T) {
	var few [][]int
	for _, l := range smallLists(2, 3, 23) {
		if l = once(l, anything); family.Check(l) == nil {
			few = append(few, l)
		}
	}
	if len(few) != 20 {
		t.Fatalf("%d families of three events, not 20", len(few))
	}
	for _, a := range few {
		for _, b := range few {
			for _, c := range few {
				lawful(t, a, b, c)
			}
		}
	}
	r := rand.New(rand.NewPCG(6, 5))
	var families [][]int
	for _, l := range randomLists(4, 100) {
		families = append(families, lowest(l[:len(l)/3]))
	}
	pick := func() []int { return families[r.IntN(len(families))] }
	for range 500 {
		lawful(t, pick(), pick(), pick())
	}
}

// TestCoversAfterRestrict checks promise P6.4, and that all of the events that count are gone.
func TestCoversAfterRestrict(t *testing.T) {
	r := rand.New(rand.NewPCG(6, 6))
	for _, l := range append(smallLists(0, 1, 2), randomLists(5, 100)...) {
		for range 20 {
			failed := r.IntN(all+1) & r.IntN(all+1)
			working := minus(r.IntN(all+1)&r.IntN(all+1), failed)
			left, err := family.Restrict(l, failed, working)
			listed(t, left, err, lowest(left), nil, "Restrict", l, failed, working)
			for _, s := range left {
				if meet(s, failed) || meet(s, working) {
					t.Errorf("Restrict(%v, %d, %d) = %v", l, failed, working, left)
				}
			}
			for _, s := range states(r, append(left, l...)) {
				s = minus(s, working)
				if covers(t, left, s) != covers(t, l, join(s, failed)) {
					t.Errorf("Restrict(%v, %d, %d) = %v, which does not cover %d as before", l, failed, working, left, s)
				}
			}
		}
	}
}

// TestMinimalAndMaximalTwice checks promise P6.5.
func TestMinimalAndMaximalTwice(t *testing.T) {
	for name, f := range map[string]func(l []int) ([]int, error){"Minimal": family.Minimal, "Maximal": family.Maximal} {
		for _, l := range someLists() {
			got, err := f(l)
			if err != nil {
				t.Fatalf("%s(%v): %v", name, l, err)
			}
			for i, s := range got {
				for j, other := range got {
					if i != j && part(s, other) {
						t.Errorf("%s(%v) = %v", name, l, got)
					}
				}
			}
			if err := family.Check(got); err != nil {
				t.Errorf("Check of %s(%v): %v", name, l, err)
			}
			again, err := f(got)
			listed(t, again, err, got, nil, name, got)
		}
	}
}
