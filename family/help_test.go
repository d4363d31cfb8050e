package family_test

import (
	"cmp"
	"math"
	"math/rand/v2"
	"slices"
	"testing"

	"faultline/api"
)

// all is the greatest set: that of the events 0 to 23.
const all = 16777215

// powers returns the numbers 2^0 to 2^23, which are the sets of single events.
func powers() []int {
	list := []int{1}
	for i := range 23 {
		list = append(list, 2*list[i])
	}
	return list
}

// in reports whether the event with this power of 2 is in a set.
func in(s, power int) bool {
	return s/power%2 == 1
}

// join returns the union, event by event.
func join(a, b int) int {
	union := 0
	for power := 1; power <= all; power *= 2 {
		if in(a, power) || in(b, power) {
			union += power
		}
	}
	return union
}

// minus returns the events of a that are not in b.
func minus(a, b int) int {
	rest := 0
	for power := 1; power <= all; power *= 2 {
		if in(a, power) && !in(b, power) {
			rest += power
		}
	}
	return rest
}

// meet reports whether two sets have an event in common.
func meet(a, b int) bool {
	return minus(a, b) != a
}

// part reports whether all events of a are in b.
func part(a, b int) bool {
	return minus(a, b) == 0
}

// size returns the number of events of a set.
func size(s int) int {
	n := 0
	for power := 1; power <= all; power *= 2 {
		if in(s, power) {
			n++
		}
	}
	return n
}

// order compares sets by size, then by mask.
func order(a, b int) int {
	return cmp.Or(cmp.Compare(size(a), size(b)), cmp.Compare(a, b))
}

// once returns the sets of a list that satisfy a condition, in order, each once.
func once(l []int, condition func(s int) bool) []int {
	var list []int
	for _, s := range l {
		if condition(s) && !slices.Contains(list, s) {
			list = append(list, s)
		}
	}
	slices.SortFunc(list, order)
	return list
}

// anything is the condition that all sets satisfy.
func anything(int) bool {
	return true
}

// lowest returns the sets of which no other set of the list is a part.
func lowest(l []int) []int {
	return once(l, func(s int) bool {
		return !slices.ContainsFunc(l, func(other int) bool { return other != s && part(other, s) })
	})
}

// highest returns the sets that are a part of no other set of the list.
func highest(l []int) []int {
	return once(l, func(s int) bool {
		return !slices.ContainsFunc(l, func(other int) bool { return other != s && part(s, other) })
	})
}

// joins returns the unions of each set of a and each set of b.
func joins(a, b []int) []int {
	var list []int
	for _, s := range a {
		for _, t := range b {
			list = append(list, join(s, t))
		}
	}
	return list
}

// smallLists returns each list of the 8 sets of three events, in descending order of the masks, so that few are sorted.
func smallLists(events ...int) [][]int {
	subsets := []int{0}
	for _, i := range events {
		for _, s := range slices.Clone(subsets) {
			subsets = append(subsets, s+powers()[i])
		}
	}
	slices.Reverse(subsets)
	lists := [][]int{nil}
	for _, s := range subsets {
		for _, l := range slices.Clone(lists) {
			lists = append(lists, append(slices.Clone(l), s))
		}
	}
	return lists
}

// randomLists returns lists of up to 24 sets, some of them of few events, with sets that occur several times.
func randomLists(seed uint64, count int) [][]int {
	r := rand.New(rand.NewPCG(6, seed))
	var lists [][]int
	for k := range count {
		var l []int
		scope := all
		if k%3 > 0 {
			scope = r.IntN(all+1) & r.IntN(all+1)
		}
		for range r.IntN(25) {
			s := r.IntN(all+1) & scope
			for range r.IntN(4) {
				s &= r.IntN(all + 1)
			}
			l = append(l, s)
			if r.IntN(4) == 0 {
				l = append(l, l[r.IntN(len(l))])
			}
		}
		lists = append(lists, l)
	}
	return lists
}

// someLists returns lists of all kinds that have no list errors.
func someLists() [][]int {
	return slices.Concat(
		[][]int{nil, {}, {0}, {0, 0}, {all}, {all, 0, all}, powers(), {1 << 23, 1 << 22, 1}},
		smallLists(0, 1, 2), smallLists(3, 17, 23), randomLists(1, 150),
	)
}

// notSets returns ints that are not sets.
func notSets() []int {
	return []int{-1, -2, -all, -all - 1, all + 1, all + 2, 3 * (all + 1), 1 << 32, 1<<32 + 5, math.MinInt, math.MinInt + 1, math.MaxInt}
}

// choices returns the sets of n of the first 12 events, in the order of the masks, from the event first on.
func choices(n, first int) []int {
	var list []int
	for s := range 1 << 12 {
		if size(s) == n {
			list = append(list, s*powers()[first])
		}
	}
	return list
}

// many returns count sets of which none is a part of another one, sorted: sets of 11 of the 15 events from first on.
func many(count, first int) []int {
	var list []int
	for s := 1<<11 - 1; len(list) < count; s++ {
		if size(s) == 11 {
			list = append(list, s*powers()[first])
		}
	}
	return list
}

// badList is a list with list errors, of which the first one counts.
type badList struct {
	l    []int
	want api.Errno
}

func badLists() []badList {
	list := []badList{
		{make([]int, 1025), api.ErrLarge},
		{make([]int, 100000), api.ErrLarge},
		{many(1025, 0), api.ErrLarge},
		{append([]int{-1}, make([]int, 1024)...), api.ErrLarge},
		{append(make([]int, 1024), all+1), api.ErrLarge},
		{append(make([]int, 1023), all+1), api.ErrRange},
		{append([]int{-1}, make([]int, 1023)...), api.ErrRange},
		{[]int{3, 1, 1, all + 1}, api.ErrRange},
		{[]int{1, 3, -1}, api.ErrRange},
	}
	for _, s := range notSets() {
		list = append(list, badList{[]int{s}, api.ErrRange}, badList{[]int{4, s, 4}, api.ErrRange})
	}
	return list
}

// listed reports a call that does not return the list and the error wanted. A nil error stands for none.
func listed(t *testing.T, got []int, err error, want []int, fault error, call string, args ...any) {
	t.Helper()
	if !slices.Equal(got, want) || err != fault {
		t.Errorf("%s%v = %v, %v, want %v, %v", call, args, got, err, want, fault)
	}
}

// told reports a call that does not return the truth value and the error wanted.
func told(t *testing.T, got bool, err error, want bool, fault error, call string, args ...any) {
	t.Helper()
	if got != want || err != fault {
		t.Errorf("%s%v = %v, %v, want %v, %v", call, args, got, err, want, fault)
	}
}
