package prime_test

import (
	"slices"
	"testing"

	"faultline/api"
	"faultline/prime"
)

// always reports whether a formula is true in all states of a cube.
func always(t *testing.T, f api.Formula, c api.Cube) bool {
	for state := range 1 << f.Vars {
		if contains(c, state) && !holds(t, f, state) {
			return false
		}
	}
	return true
}

// implicants returns all implicants that have only events of the support: from the states in which the formula is true,
// cubes that differ in one event alone are joined, until there are no more.
func implicants(t *testing.T, f api.Formula) map[api.Cube]bool {
	support := eventsBelow(t, f)
	found := map[api.Cube]bool{}
	var level []api.Cube
	for _, state := range subsets(support) {
		if holds(t, f, state) {
			level = append(level, api.Cube{Yes: state, No: support - state})
		}
	}
	for len(level) > 0 {
		for _, c := range level {
			found[c] = true
		}
		var next []api.Cube
		for _, c := range level {
			for _, less := range without(c) {
				event := c.No - less.No
				if event > 0 && found[api.Cube{Yes: c.Yes + event, No: less.No}] && !found[less] {
					found[less] = true
					next = append(next, less)
				}
			}
		}
		level = next
	}
	return found
}

// primes returns what All must return: of the implicants those that are none any more without any one of their literals.
func primes(found map[api.Cube]bool) []api.Cube {
	var list []api.Cube
	for c := range found {
		if !slices.ContainsFunc(without(c), func(less api.Cube) bool { return found[less] }) {
			list = append(list, c)
		}
	}
	slices.SortFunc(list, compare)
	return list
}

// alone reports whether the cube at an index of the list has a state that is in no other cube of it.
func alone(list []api.Cube, index, support int) bool {
	return slices.ContainsFunc(subsets(support), func(state int) bool {
		if !contains(list[index], state) {
			return false
		}
		for i, c := range list {
			if i != index && contains(c, state) {
				return false
			}
		}
		return true
	})
}

// essential returns what Essential must return for the primes.
func essential(list []api.Cube, support int) []api.Cube {
	var some []api.Cube
	for i, c := range list {
		if alone(list, i, support) {
			some = append(some, c)
		}
	}
	return some
}

// irredundant returns what Irredundant must return for the primes.
func irredundant(list []api.Cube, support int) []api.Cube {
	left := slices.Clone(list)
	slices.Reverse(left)
	for i := 0; i < len(left); {
		if alone(left, i, support) {
			i++
		} else {
			left = slices.Delete(left, i, i+1)
		}
	}
	slices.Reverse(left)
	return left
}

func TestExample(t *testing.T) {
	f := example()
	first, second, third := api.Cube{Yes: 1, No: 2}, api.Cube{Yes: 5}, api.Cube{Yes: 6}
	all, err := prime.All(f)
	listed(t, all, err, []api.Cube{first, second, third}, nil, "All", f)
	some, err := prime.Essential(f)
	listed(t, some, err, []api.Cube{first, third}, nil, "Essential", f)
	some, err = prime.Irredundant(f)
	listed(t, some, err, []api.Cube{first, third}, nil, "Irredundant", f)
}

// Cubes of all events of a formula, also of those that are not in its support, are implicants if it is true in all of
// their states, primes if that does not hold without any one of their literals. All returns these primes.
func TestDefinitions(t *testing.T) {
	for _, f := range fewEvents() {
		var all []api.Cube
		for _, c := range cubesOf(1<<f.Vars - 1) {
			is := always(t, f, c)
			answer, err := prime.Implicant(f, c)
			got(t, answer, err, is, nil, "Implicant", f, c)
			is = is && !slices.ContainsFunc(without(c), func(less api.Cube) bool { return always(t, f, less) })
			answer, err = prime.Prime(f, c)
			got(t, answer, err, is, nil, "Prime", f, c)
			if is {
				all = append(all, c)
			}
		}
		slices.SortFunc(all, compare)
		list, err := prime.All(f)
		listed(t, list, err, all, nil, "All", f)
	}
}

// The lists are those that are found by joining cubes and looking at every state.
func TestLists(t *testing.T) {
	for _, f := range slices.Concat(fewEvents(), manyEvents()) {
		support := eventsBelow(t, f)
		want := primes(implicants(t, f))
		list, err := prime.All(f)
		listed(t, list, err, want, nil, "All", f)
		list, err = prime.Essential(f)
		listed(t, list, err, essential(want, support), nil, "Essential", f)
		list, err = prime.Irredundant(f)
		listed(t, list, err, irredundant(want, support), nil, "Irredundant", f)
	}
}

// Of cubes of many events, those that are found by joining are implicants. With events that are not in the support they
// still are, but not primes.
func TestManyEvents(t *testing.T) {
	for _, f := range manyEvents() {
		support, found := eventsBelow(t, f), implicants(t, f)
		all := primes(found)
		cubes := slices.Concat(all, cubesOf(support&(1<<0|1<<3|1<<8|1<<23)), []api.Cube{{Yes: support}, {No: support}})
		for i := 0; i < len(all); i += 1 + len(all)/8 {
			cubes = append(cubes, without(all[i])...)
		}
		for _, c := range cubes {
			answer, err := prime.Implicant(f, c)
			got(t, answer, err, found[c], nil, "Implicant", f, c)
			answer, err = prime.Prime(f, c)
			got(t, answer, err, slices.Contains(all, c), nil, "Prime", f, c)
			if outside := 1<<f.Vars - 1 - support; outside > 0 {
				further := api.Cube{Yes: c.Yes | outside&0x555555, No: c.No | outside&0xaaaaaa}
				answer, err = prime.Implicant(f, further)
				got(t, answer, err, found[c], nil, "Implicant", f, further)
				answer, err = prime.Prime(f, further)
				got(t, answer, err, false, nil, "Prime", f, further)
			}
		}
	}
}

// The constants have the empty cube as their only prime, or none, whatever is below Top. An event and its opposite have
// one prime.
func TestConstantsAndEvents(t *testing.T) {
	for _, vars := range []int{0, 1, 3, 12, 13, 24} {
		for k := range 2 {
			want := []api.Cube{{}}[:k]
			same(t, last(vars, constant(k)), want, want, want)
		}
		for event := range vars {
			yes, no := []api.Cube{{Yes: 1 << event}}, []api.Cube{{No: 1 << event}}
			same(t, api.Formula{Vars: vars, Top: event}, yes, yes, yes)
			same(t, last(vars, node(api.NodeNot, event)), no, no, no)
			same(t, last(vars, node(api.NodeNot, event), node(api.NodeOr, event, vars)), []api.Cube{{}}, []api.Cube{{}}, []api.Cube{{}})
			same(t, last(vars, node(api.NodeNot, event), node(api.NodeAnd, event, vars)), nil, nil, nil)
		}
	}
	full := []api.Cube{{}}
	f := vacuous(24, from(4, 15)...)
	same(t, f, full, full, full)
	same(t, last(24, append(f.Nodes, node(api.NodeNot, f.Top))...), nil, nil, nil)
}

// same reports lists that are not those wanted.
func same(t *testing.T, f api.Formula, all, essential, irredundant []api.Cube) {
	t.Helper()
	list, err := prime.All(f)
	listed(t, list, err, all, nil, "All", f)
	list, err = prime.Essential(f)
	listed(t, list, err, essential, nil, "Essential", f)
	list, err = prime.Irredundant(f)
	listed(t, list, err, irredundant, nil, "Irredundant", f)
}

// Votes have a prime for each set of k events, all of them essential; so has an exclusive or for each odd set.
func TestVotesAndParity(t *testing.T) {
	for n := 1; n <= 12; n++ {
		events := from(12, 11+n)
		for k := 1; k <= n; k++ {
			var want []api.Cube
			for s := range 1 << n {
				if c := (api.Cube{Yes: s << 12}); len(without(c)) == k {
					want = append(want, c)
				}
			}
			same(t, last(24, vote(k, events...)), want, want, want)
		}
		var want []api.Cube
		for s := range 1 << n {
			if len(without(api.Cube{Yes: s}))%2 == 1 {
				want = append(want, api.Cube{Yes: s << 12, No: (1<<n - 1 - s) << 12})
			}
		}
		if n < 12 {
			same(t, parity(24, events...), want, want, want)
		}
	}
}

// Of n events, from low to high have failed: the primes are all cubes with low failed and n - high working events. If low
// is less than high, each state is in several of them.
func TestBetween(t *testing.T) {
	for n := 2; n <= 7; n++ {
		for low := 1; low < n; low++ {
			for high := low; high < n; high++ {
				support := 1<<n - 1
				var all []api.Cube
				for _, c := range cubesOf(support) {
					if len(without(api.Cube{Yes: c.Yes})) == low && len(without(api.Cube{Yes: c.No})) == n-high {
						all = append(all, c)
					}
				}
				slices.SortFunc(all, compare)
				f := between(low, high, n, from(0, n-1)...)
				if low == high {
					same(t, f, all, all, all)
				} else {
					same(t, f, all, nil, irredundant(all, support))
				}
			}
		}
	}
}

// Of the six primes of "neither none nor all of three", three would be enough, but the order in which they are looked at
// leaves four.
func TestOrderOfRemoval(t *testing.T) {
	f := between(1, 2, 3, 0, 1, 2)
	all := []api.Cube{{Yes: 1, No: 2}, {Yes: 1, No: 4}, {Yes: 2, No: 1}, {Yes: 2, No: 4}, {Yes: 4, No: 1}, {Yes: 4, No: 2}}
	same(t, f, all, nil, []api.Cube{all[0], all[1], all[2], all[4]})
}

// A formula may have 1024 primes, and no more; Implicant and Prime have no such limit.
func TestLimitOfPrimes(t *testing.T) {
	xor := node(api.NodeXor, from(0, 10)...)
	for _, c := range []struct {
		f     api.Formula
		count int
		prime api.Cube
	}{
		{last(12, xor), 1024, api.Cube{Yes: 1, No: 2046}},
		{last(12, xor, node(api.NodeOr, 11, 12)), 1025, api.Cube{Yes: 2048}},
		{last(24, node(api.NodeXor, from(12, 23)...)), 2048, api.Cube{Yes: 1 << 12, No: 2047 << 13}},
		{between(3, 8, 12, from(0, 11)...), 27720, api.Cube{Yes: 7, No: 8 + 16 + 32 + 64}},
		{between(4, 8, 12, from(0, 11)...), 34650, api.Cube{Yes: 15, No: 15 << 8}},
	} {
		all := primes(implicants(t, c.f))
		if len(all) != c.count {
			t.Errorf("%v has %d primes, not %d", c.f, len(all), c.count)
		}
		fault := error(nil)
		if c.count > 1024 {
			all, fault = nil, api.ErrLarge
		}
		for name, call := range lists() {
			list, err := call(c.f)
			listed(t, list, err, all, fault, name, c.f)
		}
		answer, err := prime.Implicant(c.f, c.prime)
		got(t, answer, err, true, nil, "Implicant", c.f, c.prime)
		answer, err = prime.Prime(c.f, c.prime)
		got(t, answer, err, true, nil, "Prime", c.f, c.prime)
		answer, err = prime.Prime(c.f, api.Cube{})
		got(t, answer, err, false, nil, "Prime", c.f, "the empty cube")
	}
}

// lists returns the functions that return lists.
func lists() map[string]func(f api.Formula) ([]api.Cube, error) {
	return map[string]func(f api.Formula) ([]api.Cube, error){
		"All":         prime.All,
		"Essential":   prime.Essential,
		"Irredundant": prime.Irredundant,
	}
}
